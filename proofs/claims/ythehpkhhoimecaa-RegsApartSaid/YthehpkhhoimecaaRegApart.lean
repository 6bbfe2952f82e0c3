/-
  The law RegsApart returns true for any registers, number and bytes, and writes nothing that was there.
-/
import Derived.Test.YthehpkhhoimecaaRegApartMath
import Derived.Test.YthehpkhhoimecaaIndex
import Derived.Deep.Cut
import Derived.Deep.CutRange
import Derived.Test.YthehpkhhoimecaaRegAlive
namespace Go.Proofs.Ythehpkhhoimecaa
open Go.RowKit

def pre3 : Nat → Nat
  | 0 => 0
  | 1 => 221
  | _ => 253
theorem pre3_cases (j : Nat) : pre3 j = 0 ∨ pre3 j = 221 ∨ pre3 j = 253 := by
  match j with
  | 0 => exact .inl rfl
  | 1 => exact .inr (.inl rfl)
  | _ + 2 => exact .inr (.inr rfl)
theorem idx3 (k : IntKind) (j : Nat) (hj : j < 3) (w : World) (hk : k = .u8 ∨ k = .i64) : (Instr.index 43 (.agg #[.int .u8 0, .int .u8 221, .int .u8 253]) (.int k (j : Int))).run Try.prog w = .ok (.int .u8 (pre3 j : Int)) w := by
  rcases hk with rfl | rfl <;> match j, hj with
  | 0, _ => first
    | exact (by kernel_rfl : (Instr.index 43 (.agg #[.int .u8 0, .int .u8 221, .int .u8 253]) (.int .u8 0)).run Try.prog w = .ok (.int .u8 0) w)
    | exact (by kernel_rfl : (Instr.index 43 (.agg #[.int .u8 0, .int .u8 221, .int .u8 253]) (.int .i64 0)).run Try.prog w = .ok (.int .u8 0) w)
  | 1, _ => first
    | exact (by kernel_rfl : (Instr.index 43 (.agg #[.int .u8 0, .int .u8 221, .int .u8 253]) (.int .u8 1)).run Try.prog w = .ok (.int .u8 221) w)
    | exact (by kernel_rfl : (Instr.index 43 (.agg #[.int .u8 0, .int .u8 221, .int .u8 253]) (.int .i64 1)).run Try.prog w = .ok (.int .u8 221) w)
  | 2, _ => first
    | exact (by kernel_rfl : (Instr.index 43 (.agg #[.int .u8 0, .int .u8 221, .int .u8 253]) (.int .u8 2)).run Try.prog w = .ok (.int .u8 253) w)
    | exact (by kernel_rfl : (Instr.index 43 (.agg #[.int .u8 0, .int .u8 221, .int .u8 253]) (.int .i64 2)).run Try.prog w = .ok (.int .u8 253) w)
set_option maxRecDepth 100000 in
set_option maxHeartbeats 1600000 in
theorem apart_neg (r : Rg) (hr : r.Fits) (n : Int) (hn : n < 0) (b0 b1 : Nat) (h1 : b1 < 256) (w : World) : Calls Try.prog 6 #[r.v, .int .i64 n, .agg #[.int .u8 (b0 : Int), .int .u8 (b1 : Int)]] w fun e w' => e = .returned (.bool true) ∧ Below w.heap.size w w' := by
  have HNO := Lib.hid (show ¬ n = 0 ∧ ¬ n = 1 ∧ ¬ n = 2 ∧ ¬ n = 3 ∧ ¬ n = 7 ∧ ¬ n = 4 ∧ ¬ n = 5 by omega)
  have HR := Lib.hid hr
  have H1 := Lib.hid h1
  clear hr h1
  have HM := Lib.hid (Own.start w)
  have tg1 : Hid True := trivial
  have tg2 : Hid True := trivial
  go_enter Try.func6, Try.ntmps6
  go_upto_region 4 with (first
    | ((with_reducible apply own_box HM); exact rfl; (conv => lhs; whnf); exact rfl; exact rfl; (first | (clear tg1; intro w' g1 HM') | (clear tg2; intro w' g2 HM') | (clear tg3; intro w' g3 HM') | (clear tg4; intro w' g4 HM') | intro w' g' HM'); clear HM; have HM := HM'; clear HM'; all_goals skip)
    | (go_at_call 7; (with_reducible refine (regsAlive_any _).mono ?_); rintro e w' ⟨rfl, hb⟩; have HM' := Lib.hid (HM.out.call hb); clear HM hb; have HM := HM'; clear HM'))
  have ES := Rg.same r
  (refine own_region HM (by kernel_rfl) (by kernel_rfl) ?_; (try simp only [Act.put, List.setIfInBounds_toArray, List.set_cons_zero, List.set_cons_succ]); repeat ((fail_if_success (with_reducible refine wpQuiet_nil ?_)); first | go_big_quiet_skip | (go_big_quiet_want; first | ((with_reducible apply quiet_row); exact rfl; exact aggR; (first | with_reducible exact .z | with_reducible exact .s .z | with_reducible exact .s (.s .z) | with_reducible exact .s (.s (.s .z)) | with_reducible exact .s (.s (.s (.s .z))) | with_reducible exact .s (.s (.s (.s (.s .z))))); (first | exact Rg.cells_length _ | exact rfl); go_big_quiet_op; go_big_quiet_on) | ((with_reducible apply quiet_get); exact rfl; (first | (with_reducible exact oneU8) | (with_reducible exact oneU16) | (with_reducible exact oneBool)); (first | with_reducible exact .z | with_reducible exact .s .z | with_reducible exact .s (.s .z) | with_reducible exact .s (.s (.s .z)) | with_reducible exact .s (.s (.s (.s .z))) | with_reducible exact .s (.s (.s (.s (.s .z))))); exact rfl; go_big_quiet_op; go_big_quiet_on) | ((with_reducible apply quiet_load); exact rfl; (with_reducible exact aggAlt); (first | with_reducible exact .z | with_reducible exact .s .z | with_reducible exact .s (.s .z) | with_reducible exact .s (.s (.s .z)) | with_reducible exact .s (.s (.s (.s .z))) | with_reducible exact .s (.s (.s (.s (.s .z))))); exact Rg.altDrop _; exact Rg.altTake _; go_big_quiet_op; go_big_quiet_on) | ((with_reducible apply quiet_call); exact fun w => rfl; (focus (go_simp; all_goals with_reducible rfl)); (intro wq HQ; first | (with_reducible exact setOne_no r HR.out n HNO.out b0 b1 H1.out _)); go_big_quiet_op; go_big_quiet_on) | (go_big_quiet_op; go_big_quiet_on) | (go_big_quiet_op; refine ⟨_, fun _ _ => rfl, ?_⟩; go_big_quiet_on))))
  refine wpQuiet_nil ?_
  intro w' HM'
  clear HM; have HM := HM'; clear HM'
  go_wp2_with fail
  go_ret
  exact ⟨rfl, Own.fin HM⟩
set_option maxRecDepth 100000 in
set_option maxHeartbeats 1600000 in
theorem apart_big (r : Rg) (hr : r.Fits) (n : Int) (hn : 7 < n) (b0 b1 : Nat) (h1 : b1 < 256) (w : World) : Calls Try.prog 6 #[r.v, .int .i64 n, .agg #[.int .u8 (b0 : Int), .int .u8 (b1 : Int)]] w fun e w' => e = .returned (.bool true) ∧ Below w.heap.size w w' := by
  have HNO := Lib.hid (show ¬ n = 0 ∧ ¬ n = 1 ∧ ¬ n = 2 ∧ ¬ n = 3 ∧ ¬ n = 7 ∧ ¬ n = 4 ∧ ¬ n = 5 by omega)
  have HR := Lib.hid hr
  have H1 := Lib.hid h1
  have hn0 : ¬ n < 0 := by omega
  clear hr h1
  have HM := Lib.hid (Own.start w)
  have tg1 : Hid True := trivial
  have tg2 : Hid True := trivial
  go_enter Try.func6, Try.ntmps6
  go_upto_region 4 with (first
    | ((with_reducible apply own_box HM); exact rfl; (conv => lhs; whnf); exact rfl; exact rfl; (first | (clear tg1; intro w' g1 HM') | (clear tg2; intro w' g2 HM') | (clear tg3; intro w' g3 HM') | (clear tg4; intro w' g4 HM') | intro w' g' HM'); clear HM; have HM := HM'; clear HM'; all_goals skip)
    | (go_at_call 7; (with_reducible refine (regsAlive_any _).mono ?_); rintro e w' ⟨rfl, hb⟩; have HM' := Lib.hid (HM.out.call hb); clear HM hb; have HM := HM'; clear HM'))
  have ES := Rg.same r
  (refine own_region HM (by kernel_rfl) (by kernel_rfl) ?_; (try simp only [Act.put, List.setIfInBounds_toArray, List.set_cons_zero, List.set_cons_succ]); repeat ((fail_if_success (with_reducible refine wpQuiet_nil ?_)); first | go_big_quiet_skip | (go_big_quiet_want; first | ((with_reducible apply quiet_row); exact rfl; exact aggR; (first | with_reducible exact .z | with_reducible exact .s .z | with_reducible exact .s (.s .z) | with_reducible exact .s (.s (.s .z)) | with_reducible exact .s (.s (.s (.s .z))) | with_reducible exact .s (.s (.s (.s (.s .z))))); (first | exact Rg.cells_length _ | exact rfl); go_big_quiet_op; go_big_quiet_on) | ((with_reducible apply quiet_get); exact rfl; (first | (with_reducible exact oneU8) | (with_reducible exact oneU16) | (with_reducible exact oneBool)); (first | with_reducible exact .z | with_reducible exact .s .z | with_reducible exact .s (.s .z) | with_reducible exact .s (.s (.s .z)) | with_reducible exact .s (.s (.s (.s .z))) | with_reducible exact .s (.s (.s (.s (.s .z))))); exact rfl; go_big_quiet_op; go_big_quiet_on) | ((with_reducible apply quiet_load); exact rfl; (with_reducible exact aggAlt); (first | with_reducible exact .z | with_reducible exact .s .z | with_reducible exact .s (.s .z) | with_reducible exact .s (.s (.s .z)) | with_reducible exact .s (.s (.s (.s .z))) | with_reducible exact .s (.s (.s (.s (.s .z))))); exact Rg.altDrop _; exact Rg.altTake _; go_big_quiet_op; go_big_quiet_on) | ((with_reducible apply quiet_call); exact fun w => rfl; (focus (go_simp; all_goals with_reducible rfl)); (intro wq HQ; first | (with_reducible exact setOne_no r HR.out n HNO.out b0 b1 H1.out _)); go_big_quiet_op; go_big_quiet_on) | (go_big_quiet_op; go_big_quiet_on) | (go_big_quiet_op; refine ⟨_, fun _ _ => rfl, ?_⟩; go_big_quiet_on))))
  refine wpQuiet_nil ?_
  intro w' HM'
  clear HM; have HM := HM'; clear HM'
  go_wp2_with fail
  go_ret
  exact ⟨rfl, Own.fin HM⟩
set_option maxRecDepth 100000 in
set_option maxHeartbeats 6400000 in
theorem apart_in (r : Rg) (hr : r.Fits) (n : Nat) (hn : n < 8) (b0 b1 : Nat) (h1 : b1 < 256) (w : World) : Calls Try.prog 6 #[r.v, .int .i64 (n : Int), .agg #[.int .u8 (b0 : Int), .int .u8 (b1 : Int)]] w fun e w' => e = .returned (.bool true) ∧ Below w.heap.size w w' := by
  obtain ⟨j0, hj0⟩ : ∃ j0, j0 = b0 % 3 := ⟨_, rfl⟩
  have e0 : (b0 : Int) % 3 = (j0 : Int) := by omega
  have HI := Lib.hid (fun w => idx3 .u8 j0 (by omega) w (.inl rfl))
  obtain ⟨px, hpx⟩ : ∃ px, px = pre3 j0 := ⟨_, rfl⟩
  have HPX : Hid (px = 0 ∨ px = 221 ∨ px = 253) := by show _ ∨ _; rw [hpx]; exact pre3_cases j0
  rw [← hpx, ← e0] at HI
  clear hpx hj0 e0
  obtain ⟨s, hs⟩ : ∃ s, Hid (r.setOne (n : Int) px b1 = s) := ⟨_, rfl⟩
  have sf : s.Fits := by rw [← hs.out]; exact r.setOne_fits hr n px b1 h1
  have HR := Lib.hid hr
  have HS := Lib.hid sf
  have H1 := Lib.hid h1
  have HN := Lib.hid hn
  have hn1 : ¬ (n : Int) < 0 := by omega
  have hn2 : ¬ 7 < (n : Int) := by omega
  clear hr sf h1 hn
  have tg3 : Hid True := trivial
  have HM := Lib.hid (Own.start w)
  have tg1 : Hid True := trivial
  have tg2 : Hid True := trivial
  go_enter Try.func6, Try.ntmps6
  go_wp2_with (first
    | ((with_reducible apply own_box HM); exact rfl; (conv => lhs; whnf); exact rfl; exact rfl; (first | (clear tg1; intro w' g1 HM') | (clear tg2; intro w' g2 HM') | (clear tg3; intro w' g3 HM') | (clear tg4; intro w' g4 HM') | intro w' g' HM'); clear HM; have HM := HM'; clear HM'; all_goals skip) | ((with_reducible apply own_cell HM); exact rfl; exact rfl; (first | (with_reducible exact oneU8)); (first | with_reducible exact .z | with_reducible exact .s .z | with_reducible exact .s (.s .z) | with_reducible exact .s (.s (.s .z)) | with_reducible exact .s (.s (.s (.s .z))) | with_reducible exact .s (.s (.s (.s (.s .z))))); (focus repeat' (first | with_reducible exact .z | with_reducible apply Drop.s)); exact rfl; all_goals skip) | ((with_reducible apply own_store HM); exact rfl; exact rfl; (conv => lhs; whnf); exact rfl; (first | with_reducible exact .z | with_reducible exact .s .z | with_reducible exact .s (.s .z) | with_reducible exact .s (.s (.s .z)) | with_reducible exact .s (.s (.s (.s .z))) | with_reducible exact .s (.s (.s (.s (.s .z))))); (focus repeat' (first | with_reducible exact .z | with_reducible apply Over.p | with_reducible apply Over.s)); (first | with_reducible exact .z | with_reducible exact .s .z | with_reducible exact .s (.s .z) | with_reducible exact .s (.s (.s .z)) | with_reducible exact .s (.s (.s (.s .z))) | with_reducible exact .s (.s (.s (.s (.s .z))))); (first | (with_reducible exact (oneU8).size)); exact rfl; exact rfl; exact rfl; exact rfl; intro w' HM'; clear HM; have HM := HM'; clear HM'; all_goals skip)
    | ((with_reducible apply own_alloc HM); exact rfl; (with_reducible exact zeroR); exact rfl; (first | (clear tg1; intro w' g1 HM') | (clear tg2; intro w' g2 HM') | (clear tg3; intro w' g3 HM') | (clear tg4; intro w' g4 HM') | intro w' g' HM'); clear HM; have HM := HM'; clear HM'; all_goals skip) | ((with_reducible apply own_row HM); exact rfl; exact rfl; exact aggR; (first | with_reducible exact .z | with_reducible exact .s .z | with_reducible exact .s (.s .z) | with_reducible exact .s (.s (.s .z)) | with_reducible exact .s (.s (.s (.s .z))) | with_reducible exact .s (.s (.s (.s (.s .z))))); exact rfl; (first | exact Rg.cells_length _ | exact rfl); all_goals skip) | ((with_reducible apply own_lay HM); exact rfl; exact rfl; exact rfl; (first | with_reducible exact .z | with_reducible exact .s .z | with_reducible exact .s (.s .z) | with_reducible exact .s (.s (.s .z)) | with_reducible exact .s (.s (.s (.s .z))) | with_reducible exact .s (.s (.s (.s (.s .z))))); (first | with_reducible exact .z | with_reducible exact .s .z | with_reducible exact .s (.s .z) | with_reducible exact .s (.s (.s .z)) | with_reducible exact .s (.s (.s (.s .z))) | with_reducible exact .s (.s (.s (.s (.s .z))))); exact aggR.size; (first | exact Rg.cells_length _ | exact rfl); (first | exact Rg.cells_length _ | exact rfl); (first | exact Rg.one1 _ | exact rfl); exact rfl; exact rfl; intro w' HM'; clear HM; have HM := HM'; clear HM'; all_goals skip)
    | ((with_reducible apply own_index); exact rfl; exact rfl; exact rfl; exact HI.out; exact rfl; all_goals skip)
    | (go_at_call 7; (with_reducible refine (regsAlive_any _).mono ?_); rintro e w' ⟨rfl, hb⟩; have HM' := Lib.hid (HM.out.call hb); clear HM hb; have HM := HM'; clear HM')
    | (go_at_call 20; (with_reducible refine (setOne_at r HR.out (n : Int) px b1 H1.out s hs _).mono ?_); rintro e w' ⟨rfl, hb⟩; have HM' := Lib.hid (HM.out.call hb); clear HM hb; have HM := HM'; clear HM'))
  clear HI hn1 hn2
  go_loopw [9] (fun i wr => ∃ k : Nat, k ≤ 8 ∧ i = .int .i64 k ∧ Hid (Own w wr [(g3, 26, s.cells), (g2, 42, [.int .u8 (b0 : Int), .int .u8 (b1 : Int)]), (g1, 26, r.cells)])) (fun i _ => 8 - (intOf i).toNat)
  case atStart => exact ⟨0, by omega, rfl, HM⟩
  case round =>
    clear HM
    obtain ⟨k, hk, rfl, HM⟩ := hrel
    by_cases hlt : (k : Int) < 8
    · go_wp2_with fail
      go_loopw [47] (fun i wr => ∃ j : Nat, j ≤ 3 ∧ i = .int .i64 j ∧ Hid (Own w wr [(g3, 26, s.cells), (g2, 42, [.int .u8 (b0 : Int), .int .u8 (b1 : Int)]), (g1, 26, r.cells)])) (fun i _ => 3 - (intOf i).toNat)
      case atStart => exact ⟨0, by omega, rfl, HM⟩
      case round =>
        clear HM
        obtain ⟨j, hj, rfl, HM⟩ := hrel
        by_cases hlj : (j : Int) < 3
        · have HJ := Lib.hid (fun w => idx3 .i64 j (by omega) w (.inr rfl))
          have HP := Lib.hid (pre3_cases j)
          obtain ⟨p, hp⟩ : ∃ p, p = pre3 j := ⟨_, rfl⟩
          rw [← hp] at HJ HP
          clear hp
          obtain ⟨O1, hO1⟩ : ∃ O1, Hid (r.one (k : Int) p = O1) := ⟨_, rfl⟩
          obtain ⟨O2, hO2⟩ : ∃ O2, Hid (s.one (k : Int) p = O2) := ⟨_, rfl⟩
          have hw := apart_ways r HR.out n k p px b1 O1 O2 HN.out (by omega) HP.out HPX.out H1.out hO1.out (by rw [hs.out]; exact hO2.out)
          rcases hw with ⟨q1, rfl⟩ | ⟨q1, q2, q3, rfl⟩ | ⟨q1, q2, q3, rfl⟩ | ⟨q1, q2, q3, rfl⟩ | ⟨q1, q2, q3, q4, rfl⟩ | ⟨q1, q2, q3, q4, q5, rfl⟩ | ⟨q1, q2, q3, q4, q5, rfl⟩
          all_goals
            go_wp2_with (first
              | ((with_reducible apply own_box HM); exact rfl; (conv => lhs; whnf); exact rfl; exact rfl; (first | (clear tg1; intro w' g1 HM') | (clear tg2; intro w' g2 HM') | (clear tg3; intro w' g3 HM') | (clear tg4; intro w' g4 HM') | intro w' g' HM'); clear HM; have HM := HM'; clear HM'; all_goals skip) | ((with_reducible apply own_cell HM); exact rfl; exact rfl; (first | (with_reducible exact oneU8)); (first | with_reducible exact .z | with_reducible exact .s .z | with_reducible exact .s (.s .z) | with_reducible exact .s (.s (.s .z)) | with_reducible exact .s (.s (.s (.s .z))) | with_reducible exact .s (.s (.s (.s (.s .z))))); (focus repeat' (first | with_reducible exact .z | with_reducible apply Drop.s)); exact rfl; all_goals skip) | ((with_reducible apply own_store HM); exact rfl; exact rfl; (conv => lhs; whnf); exact rfl; (first | with_reducible exact .z | with_reducible exact .s .z | with_reducible exact .s (.s .z) | with_reducible exact .s (.s (.s .z)) | with_reducible exact .s (.s (.s (.s .z))) | with_reducible exact .s (.s (.s (.s (.s .z))))); (focus repeat' (first | with_reducible exact .z | with_reducible apply Over.p | with_reducible apply Over.s)); (first | with_reducible exact .z | with_reducible exact .s .z | with_reducible exact .s (.s .z) | with_reducible exact .s (.s (.s .z)) | with_reducible exact .s (.s (.s (.s .z))) | with_reducible exact .s (.s (.s (.s (.s .z))))); (first | (with_reducible exact (oneU8).size)); exact rfl; exact rfl; exact rfl; exact rfl; intro w' HM'; clear HM; have HM := HM'; clear HM'; all_goals skip)
              | ((with_reducible apply own_row HM); exact rfl; exact rfl; exact aggR; (first | with_reducible exact .z | with_reducible exact .s .z | with_reducible exact .s (.s .z) | with_reducible exact .s (.s (.s .z)) | with_reducible exact .s (.s (.s (.s .z))) | with_reducible exact .s (.s (.s (.s (.s .z))))); exact rfl; (first | exact Rg.cells_length _ | exact rfl); all_goals skip)
              | ((with_reducible apply own_index); exact rfl; exact rfl; exact rfl; exact HJ.out; exact rfl; all_goals skip)
              | (go_at_call 16; first
                | ((with_reducible refine (one_at r HR.out (k : Int) p _ hO1 _).mono ?_); rintro e w' ⟨rfl, hb⟩; have HM' := Lib.hid (HM.out.call hb); clear HM hb; have HM := HM'; clear HM')
                | ((with_reducible refine (one_at s HS.out (k : Int) p _ hO2 _).mono ?_); rintro e w' ⟨rfl, hb⟩; have HM' := Lib.hid (HM.out.call hb); clear HM hb; have HM := HM'; clear HM')))
            go_roundw
            case' rel => exact ⟨j + 1, by omega, by go_num, HM⟩
            case' measure => simp [intOf]; omega
        · obtain rfl : j = 3 := by omega
          go_wp2_with fail
          go_roundw
          case rel => exact ⟨k + 1, by omega, by go_num, HM⟩
          case measure => simp [intOf]; omega
    · obtain rfl : k = 8 := by omega
      have hkeep := r.setOne_keeps (n : Int) px b1
      rw [hs.out] at hkeep
      obtain ⟨k1, k2, k3, k4⟩ := hkeep
      have c1 : ((s.sp : Int) == (r.sp : Int)) = true := by rw [k1]; simp
      have c2 : ((s.pc : Int) == (r.pc : Int)) = true := by rw [k2]; simp
      have c4 : ((s.f : Int) == (r.f : Int)) = true := by rw [k4]; simp
      have EA : ∀ w, (Op.equalIn 10000 23 (.agg s.alt.toArray) (.agg r.alt.toArray)).run Try.prog w = .ok true w := by rw [k3]; exact r.altSame
      clear k1 k2 k3 k4
      go_upto_region 20 with fail
      (refine own_inorder HM ?_; (try simp only [Act.put, List.setIfInBounds_toArray, List.set_cons_zero, List.set_cons_succ]); repeat ((fail_if_success (with_reducible refine wpQuiet_nil ?_)); first | go_big_quiet_skip | (go_big_quiet_want; first | ((with_reducible apply quiet_row); exact rfl; exact aggR; (first | with_reducible exact .z | with_reducible exact .s .z | with_reducible exact .s (.s .z) | with_reducible exact .s (.s (.s .z)) | with_reducible exact .s (.s (.s (.s .z))) | with_reducible exact .s (.s (.s (.s (.s .z))))); (first | exact Rg.cells_length _ | exact rfl); go_big_quiet_op; go_big_quiet_on) | ((with_reducible apply quiet_get); exact rfl; (first | (with_reducible exact oneU8) | (with_reducible exact oneU16) | (with_reducible exact oneBool)); (first | with_reducible exact .z | with_reducible exact .s .z | with_reducible exact .s (.s .z) | with_reducible exact .s (.s (.s .z)) | with_reducible exact .s (.s (.s (.s .z))) | with_reducible exact .s (.s (.s (.s (.s .z))))); exact rfl; go_big_quiet_op; go_big_quiet_on) | ((with_reducible apply quiet_load); exact rfl; (with_reducible exact aggAlt); (first | with_reducible exact .z | with_reducible exact .s .z | with_reducible exact .s (.s .z) | with_reducible exact .s (.s (.s .z)) | with_reducible exact .s (.s (.s (.s .z))) | with_reducible exact .s (.s (.s (.s (.s .z))))); exact Rg.altDrop _; exact Rg.altTake _; go_big_quiet_op; go_big_quiet_on) | (go_big_quiet_op; go_big_quiet_on) | (go_big_quiet_op; refine ⟨_, fun _ _ => rfl, ?_⟩; go_big_quiet_on))))
      refine wpQuiet_nil ?_
      intro w' HM'
      clear HM; have HM := HM'; clear HM'
      go_wp2_with fail
      go_ret
      exact ⟨rfl, Own.fin HM⟩
theorem apart_any (r : Rg) (hr : r.Fits) (n : Int) (b0 b1 : Nat) (h1 : b1 < 256) (w : World) : Calls Try.prog 6 #[r.v, .int .i64 n, .agg #[.int .u8 (b0 : Int), .int .u8 (b1 : Int)]] w fun e w' => e = .returned (.bool true) ∧ Below w.heap.size w w' := by
  by_cases hn : n < 0
  · exact apart_neg r hr n hn b0 b1 h1 w
  · by_cases h7 : 7 < n
    · exact apart_big r hr n h7 b0 b1 h1 w
    · obtain ⟨m, rfl⟩ := Int.eq_ofNat_of_zero_le (show 0 ≤ n by omega)
      exact apart_in r hr m (by omega) b0 b1 h1 w

end Go.Proofs.Ythehpkhhoimecaa
