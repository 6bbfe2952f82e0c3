/-
  plainFirst, plainMove, plainLast, plain of package names.
-/
import Derived.Test.YtaiceidmcelapaaDoorNamFirst
set_option linter.unusedSimpArgs false
set_option linter.unusedVariables false
namespace Go.Proofs.YtaiceidmcelapaaDoor
open Go.RowKit

theorem first_at (X : Int) (y z p q : Nat) (hy : y < 8) (hz : z < 8) (hp4 : p < 4) (hq : q < 2) (b : Tx) (hp : b ∈ pairs) (w : World) (hT : Tabs w) : Calls Tryd.prog 36 #[.agg #[.int .i64 X, .int .i64 (y : Int), .int .i64 (z : Int), .int .i64 (p : Int), .int .i64 (q : Int)], .string ⟨b.toArray⟩] w fun e w' => e = .returned (.string ⟨(cFirst y z p q b).toArray⟩) ∧ Below w.heap.size w w' := by
  match z, hz, q, hq with
  | 0, _, q, hq => exact first_0 X y p q hy hp4 hq b hp w hT
  | 1, _, 0, _ => exact first_10 X y p hy hp4 b hp w hT
  | 1, _, 1, _ => exact first_11 X y p hy hp4 b hp w hT
  | 2, _, q, hq => exact first_2 X y p q hy hp4 hq b hp w hT
  | 3, _, 0, _ => exact first_30 X y p hy hp4 b hp w hT
  | 3, _, 1, _ => exact first_31 X y p hy hp4 b hp w hT
  | 4, _, q, hq => exact first_4 X y p q hy hp4 hq b hp w hT
  | 5, _, q, hq => exact first_5 X y p q hy hp4 hq b hp w hT
  | 6, _, q, hq => exact first_6 X y p q hy hp4 hq b hp w hT
  | 7, _, q, hq => exact first_7 X y p q hy hp4 hq b hp w hT
set_option maxRecDepth 100000 in
set_option maxHeartbeats 800000 in
theorem move_66 (X : Int) (p q : Nat) (hp4 : p < 4) (hq : q < 2) (b : Tx) (hp : b ∈ pairs) (w : World) (hTab : Tabs w) : Calls Tryd.prog 37 #[.agg #[.int .i64 X, .int .i64 6, .int .i64 6, .int .i64 (p : Int), .int .i64 (q : Int)], .string ⟨(b).toArray⟩] w fun e w' => e = .returned (.string ⟨([72, 65, 76, 84]).toArray⟩) ∧ Below w.heap.size w w' := by
  have hT : Hid (Tabs w) := hTab
  clear hTab
  have HM := Lib.hid (Own.start w)
  have tg1 : Hid True := trivial
  go_enter Tryd.func37, Tryd.ntmps37
  go_wp2_with (first
    | ((with_reducible apply own_box HM); exact rfl; (conv => lhs; whnf); exact rfl; exact rfl; (first | (clear tg1; intro w' g1 HM') | (clear tg2; intro w' g2 HM') | (clear tg3; intro w' g3 HM') | (clear tg4; intro w' g4 HM') | intro w' g' HM'); clear HM; have HM := HM'; clear HM'; all_goals skip) | ((with_reducible apply own_alloc HM); exact rfl; (first | (with_reducible exact zeroP)); exact rfl; (first | (clear tg1; intro w' g1 HM') | (clear tg2; intro w' g2 HM') | (clear tg3; intro w' g3 HM') | (clear tg4; intro w' g4 HM') | intro w' g' HM'); clear HM; have HM := HM'; clear HM'; all_goals skip) | ((with_reducible apply own_cell HM); exact rfl; exact rfl; (first | (with_reducible exact oneInt)); (first | with_reducible exact .z | with_reducible exact .s .z | with_reducible exact .s (.s .z) | with_reducible exact .s (.s (.s .z)) | with_reducible exact .s (.s (.s (.s .z))) | with_reducible exact .s (.s (.s (.s (.s .z))))); (focus repeat' (first | with_reducible exact .z | with_reducible apply Drop.s)); exact rfl; all_goals skip) | ((with_reducible apply own_load HM); exact rfl; exact rfl; (first | (with_reducible exact aggP)); (first | with_reducible exact .z | with_reducible exact .s .z | with_reducible exact .s (.s .z) | with_reducible exact .s (.s (.s .z)) | with_reducible exact .s (.s (.s (.s .z))) | with_reducible exact .s (.s (.s (.s (.s .z))))); (focus repeat' (first | with_reducible exact .z | with_reducible apply Drop.s)); (focus repeat' (first | with_reducible exact .z | with_reducible apply Take.s)); exact rfl; all_goals skip) | ((with_reducible apply own_store HM); exact rfl; exact rfl; (conv => lhs; whnf); exact rfl; (first | with_reducible exact .z | with_reducible exact .s .z | with_reducible exact .s (.s .z) | with_reducible exact .s (.s (.s .z)) | with_reducible exact .s (.s (.s (.s .z))) | with_reducible exact .s (.s (.s (.s (.s .z))))); (focus repeat' (first | with_reducible exact .z | with_reducible apply Over.p | with_reducible apply Over.s)); (first | with_reducible exact .z | with_reducible exact .s .z | with_reducible exact .s (.s .z) | with_reducible exact .s (.s (.s .z)) | with_reducible exact .s (.s (.s (.s .z))) | with_reducible exact .s (.s (.s (.s (.s .z))))); (first | (with_reducible exact (aggP).size) | (with_reducible exact (oneInt).size)); exact rfl; exact rfl; exact rfl; exact rfl; intro w' HM'; clear HM; have HM := HM'; clear HM'; all_goals skip))
  all_goals go_ret
  all_goals exact ⟨rfl, Own.fin HM⟩
set_option maxRecDepth 100000 in
set_option maxHeartbeats 800000 in
theorem move_6 (X : Int) (z p q : Nat) (hz : z < 8) (hp4 : p < 4) (hq : q < 2) (b : Tx) (hp : b ∈ pairs) (z6 : z ≠ 6) (w : World) (hTab : Tabs w) : Calls Tryd.prog 37 #[.agg #[.int .i64 X, .int .i64 6, .int .i64 (z : Int), .int .i64 (p : Int), .int .i64 (q : Int)], .string ⟨(b).toArray⟩] w fun e w' => e = .returned (.string ⟨(cLoad (cSingle 6 b) (sg t_singles z)).toArray⟩) ∧ Below w.heap.size w w' := by
  have hT : Hid (Tabs w) := hTab
  have c1 := hTab.str (0, t_singles) (by decide) z (hz)
  have gz : ((z : Int) == 6) = false := by rw [beq_eq_false_iff_ne]; omega
  have z8 : (z : Int) < 8 := by omega
  have k1 : (cSingle 6 b).length ≤ 24 := Nat.le_trans (len_single b hp 6 (by decide)) (by decide)
  have k2 : (sg t_singles z).length ≤ 24 := Nat.le_trans (len_sg t_singles (by decide) z hz) (by decide)
  clear hTab
  have HM := Lib.hid (Own.start w)
  have tg1 : Hid True := trivial
  go_enter Tryd.func37, Tryd.ntmps37
  go_wp2_with (first
    | ((with_reducible apply own_box HM); exact rfl; (conv => lhs; whnf); exact rfl; exact rfl; (first | (clear tg1; intro w' g1 HM') | (clear tg2; intro w' g2 HM') | (clear tg3; intro w' g3 HM') | (clear tg4; intro w' g4 HM') | intro w' g' HM'); clear HM; have HM := HM'; clear HM'; all_goals skip) | ((with_reducible apply own_alloc HM); exact rfl; (first | (with_reducible exact zeroP)); exact rfl; (first | (clear tg1; intro w' g1 HM') | (clear tg2; intro w' g2 HM') | (clear tg3; intro w' g3 HM') | (clear tg4; intro w' g4 HM') | intro w' g' HM'); clear HM; have HM := HM'; clear HM'; all_goals skip) | ((with_reducible apply own_cell HM); exact rfl; exact rfl; (first | (with_reducible exact oneInt)); (first | with_reducible exact .z | with_reducible exact .s .z | with_reducible exact .s (.s .z) | with_reducible exact .s (.s (.s .z)) | with_reducible exact .s (.s (.s (.s .z))) | with_reducible exact .s (.s (.s (.s (.s .z))))); (focus repeat' (first | with_reducible exact .z | with_reducible apply Drop.s)); exact rfl; all_goals skip) | ((with_reducible apply own_load HM); exact rfl; exact rfl; (first | (with_reducible exact aggP)); (first | with_reducible exact .z | with_reducible exact .s .z | with_reducible exact .s (.s .z) | with_reducible exact .s (.s (.s .z)) | with_reducible exact .s (.s (.s (.s .z))) | with_reducible exact .s (.s (.s (.s (.s .z))))); (focus repeat' (first | with_reducible exact .z | with_reducible apply Drop.s)); (focus repeat' (first | with_reducible exact .z | with_reducible apply Take.s)); exact rfl; all_goals skip) | ((with_reducible apply own_store HM); exact rfl; exact rfl; (conv => lhs; whnf); exact rfl; (first | with_reducible exact .z | with_reducible exact .s .z | with_reducible exact .s (.s .z) | with_reducible exact .s (.s (.s .z)) | with_reducible exact .s (.s (.s (.s .z))) | with_reducible exact .s (.s (.s (.s (.s .z))))); (focus repeat' (first | with_reducible exact .z | with_reducible apply Over.p | with_reducible apply Over.s)); (first | with_reducible exact .z | with_reducible exact .s .z | with_reducible exact .s (.s .z) | with_reducible exact .s (.s (.s .z)) | with_reducible exact .s (.s (.s (.s .z))) | with_reducible exact .s (.s (.s (.s (.s .z))))); (first | (with_reducible exact (aggP).size) | (with_reducible exact (oneInt).size)); exact rfl; exact rfl; exact rfl; exact rfl; intro w' HM'; clear HM; have HM := HM'; clear HM'; all_goals skip))
  all_goals (try ((refine own_region HM (by kernel_rfl) (by kernel_rfl) ?_; (try simp only [Act.put, List.setIfInBounds_toArray, List.set_cons_zero, List.set_cons_succ]); repeat ((fail_if_success (with_reducible refine wpQuiet_nil ?_)); first | go_big_quiet_skip | (go_big_quiet_want; first | ((with_reducible apply quiet_cell); exact rfl; (first | (with_reducible exact oneInt)); (first | with_reducible exact .z | with_reducible exact .s .z | with_reducible exact .s (.s .z) | with_reducible exact .s (.s (.s .z)) | with_reducible exact .s (.s (.s (.s .z))) | with_reducible exact .s (.s (.s (.s (.s .z))))); (focus repeat' (first | with_reducible exact .z | with_reducible apply Drop.s)); go_big_quiet_op; go_big_quiet_on) | ((with_reducible apply quiet_old); exact rfl; (first | (with_reducible exact oneInt) | (with_reducible exact oneU8) | (with_reducible exact oneBool) | (with_reducible exact oneU16) | (with_reducible exact oneStr)); (first | (with_reducible exact c1)); exact rfl; go_big_quiet_op; go_big_quiet_on) | ((with_reducible apply quiet_call); exact fun w => rfl; (focus (go_simp; all_goals with_reducible rfl)); (intro wq HQ; first | exact (single_at 6 (by decide) b hp _ (Tabs.own hT HQ)) | exact (load_at (cSingle 6 b) (sg t_singles z) (by assumption) (by assumption) _ (Tabs.own hT HQ))); go_big_quiet_op; go_big_quiet_on) | (go_big_quiet_op; go_big_quiet_on) | (go_big_quiet_op; refine ⟨_, fun _ _ => rfl, ?_⟩; go_big_quiet_on)))); ((refine wpQuiet_nil ?_; intro w' HM'; clear HM; have HM := HM'; clear HM'; go_wp2_with fail))))
  all_goals go_ret
  all_goals exact ⟨rfl, Own.fin HM⟩
set_option maxRecDepth 100000 in
set_option maxHeartbeats 800000 in
theorem move_x6 (X : Int) (y p q : Nat) (hy : y < 8) (hp4 : p < 4) (hq : q < 2) (b : Tx) (hp : b ∈ pairs) (y6 : y ≠ 6) (w : World) (hTab : Tabs w) : Calls Tryd.prog 37 #[.agg #[.int .i64 X, .int .i64 (y : Int), .int .i64 6, .int .i64 (p : Int), .int .i64 (q : Int)], .string ⟨(b).toArray⟩] w fun e w' => e = .returned (.string ⟨(cLoad (sg t_singles y) (cSingle 6 b)).toArray⟩) ∧ Below w.heap.size w w' := by
  have hT : Hid (Tabs w) := hTab
  have c1 := hTab.str (0, t_singles) (by decide) y (hy)
  have gy : ((y : Int) == 6) = false := by rw [beq_eq_false_iff_ne]; omega
  have y8 : (y : Int) < 8 := by omega
  have k1 : (cSingle 6 b).length ≤ 24 := Nat.le_trans (len_single b hp 6 (by decide)) (by decide)
  have k2 : (sg t_singles y).length ≤ 24 := Nat.le_trans (len_sg t_singles (by decide) y hy) (by decide)
  clear hTab
  have HM := Lib.hid (Own.start w)
  have tg1 : Hid True := trivial
  go_enter Tryd.func37, Tryd.ntmps37
  go_wp2_with (first
    | ((with_reducible apply own_box HM); exact rfl; (conv => lhs; whnf); exact rfl; exact rfl; (first | (clear tg1; intro w' g1 HM') | (clear tg2; intro w' g2 HM') | (clear tg3; intro w' g3 HM') | (clear tg4; intro w' g4 HM') | intro w' g' HM'); clear HM; have HM := HM'; clear HM'; all_goals skip) | ((with_reducible apply own_alloc HM); exact rfl; (first | (with_reducible exact zeroP)); exact rfl; (first | (clear tg1; intro w' g1 HM') | (clear tg2; intro w' g2 HM') | (clear tg3; intro w' g3 HM') | (clear tg4; intro w' g4 HM') | intro w' g' HM'); clear HM; have HM := HM'; clear HM'; all_goals skip) | ((with_reducible apply own_cell HM); exact rfl; exact rfl; (first | (with_reducible exact oneInt)); (first | with_reducible exact .z | with_reducible exact .s .z | with_reducible exact .s (.s .z) | with_reducible exact .s (.s (.s .z)) | with_reducible exact .s (.s (.s (.s .z))) | with_reducible exact .s (.s (.s (.s (.s .z))))); (focus repeat' (first | with_reducible exact .z | with_reducible apply Drop.s)); exact rfl; all_goals skip) | ((with_reducible apply own_load HM); exact rfl; exact rfl; (first | (with_reducible exact aggP)); (first | with_reducible exact .z | with_reducible exact .s .z | with_reducible exact .s (.s .z) | with_reducible exact .s (.s (.s .z)) | with_reducible exact .s (.s (.s (.s .z))) | with_reducible exact .s (.s (.s (.s (.s .z))))); (focus repeat' (first | with_reducible exact .z | with_reducible apply Drop.s)); (focus repeat' (first | with_reducible exact .z | with_reducible apply Take.s)); exact rfl; all_goals skip) | ((with_reducible apply own_store HM); exact rfl; exact rfl; (conv => lhs; whnf); exact rfl; (first | with_reducible exact .z | with_reducible exact .s .z | with_reducible exact .s (.s .z) | with_reducible exact .s (.s (.s .z)) | with_reducible exact .s (.s (.s (.s .z))) | with_reducible exact .s (.s (.s (.s (.s .z))))); (focus repeat' (first | with_reducible exact .z | with_reducible apply Over.p | with_reducible apply Over.s)); (first | with_reducible exact .z | with_reducible exact .s .z | with_reducible exact .s (.s .z) | with_reducible exact .s (.s (.s .z)) | with_reducible exact .s (.s (.s (.s .z))) | with_reducible exact .s (.s (.s (.s (.s .z))))); (first | (with_reducible exact (aggP).size) | (with_reducible exact (oneInt).size)); exact rfl; exact rfl; exact rfl; exact rfl; intro w' HM'; clear HM; have HM := HM'; clear HM'; all_goals skip))
  all_goals (try ((refine own_region HM (by kernel_rfl) (by kernel_rfl) ?_; (try simp only [Act.put, List.setIfInBounds_toArray, List.set_cons_zero, List.set_cons_succ]); repeat ((fail_if_success (with_reducible refine wpQuiet_nil ?_)); first | go_big_quiet_skip | (go_big_quiet_want; first | ((with_reducible apply quiet_cell); exact rfl; (first | (with_reducible exact oneInt)); (first | with_reducible exact .z | with_reducible exact .s .z | with_reducible exact .s (.s .z) | with_reducible exact .s (.s (.s .z)) | with_reducible exact .s (.s (.s (.s .z))) | with_reducible exact .s (.s (.s (.s (.s .z))))); (focus repeat' (first | with_reducible exact .z | with_reducible apply Drop.s)); go_big_quiet_op; go_big_quiet_on) | ((with_reducible apply quiet_old); exact rfl; (first | (with_reducible exact oneInt) | (with_reducible exact oneU8) | (with_reducible exact oneBool) | (with_reducible exact oneU16) | (with_reducible exact oneStr)); (first | (with_reducible exact c1)); exact rfl; go_big_quiet_op; go_big_quiet_on) | ((with_reducible apply quiet_call); exact fun w => rfl; (focus (go_simp; all_goals with_reducible rfl)); (intro wq HQ; first | exact (single_at 6 (by decide) b hp _ (Tabs.own hT HQ)) | exact (load_at (sg t_singles y) (cSingle 6 b) (by assumption) (by assumption) _ (Tabs.own hT HQ))); go_big_quiet_op; go_big_quiet_on) | (go_big_quiet_op; go_big_quiet_on) | (go_big_quiet_op; refine ⟨_, fun _ _ => rfl, ?_⟩; go_big_quiet_on)))); ((refine wpQuiet_nil ?_; intro w' HM'; clear HM; have HM := HM'; clear HM'; go_wp2_with fail))))
  all_goals go_ret
  all_goals exact ⟨rfl, Own.fin HM⟩
set_option maxRecDepth 100000 in
set_option maxHeartbeats 800000 in
theorem move_xx (X : Int) (y z p q : Nat) (hy : y < 8) (hz : z < 8) (hp4 : p < 4) (hq : q < 2) (b : Tx) (hp : b ∈ pairs) (y6 : y ≠ 6) (z6 : z ≠ 6) (w : World) (hTab : Tabs w) : Calls Tryd.prog 37 #[.agg #[.int .i64 X, .int .i64 (y : Int), .int .i64 (z : Int), .int .i64 (p : Int), .int .i64 (q : Int)], .string ⟨(b).toArray⟩] w fun e w' => e = .returned (.string ⟨(cLoad (cSingle y b) (cSingle z b)).toArray⟩) ∧ Below w.heap.size w w' := by
  have hT : Hid (Tabs w) := hTab
  have gy : ((y : Int) == 6) = false := by rw [beq_eq_false_iff_ne]; omega
  have gz : ((z : Int) == 6) = false := by rw [beq_eq_false_iff_ne]; omega
  have y8 : (y : Int) < 8 := by omega
  have z8 : (z : Int) < 8 := by omega
  have k1 : (cSingle y b).length ≤ 24 := Nat.le_trans (len_single b hp y hy) (by decide)
  have k2 : (cSingle z b).length ≤ 24 := Nat.le_trans (len_single b hp z hz) (by decide)
  clear hTab
  have HM := Lib.hid (Own.start w)
  have tg1 : Hid True := trivial
  go_enter Tryd.func37, Tryd.ntmps37
  go_wp2_with (first
    | ((with_reducible apply own_box HM); exact rfl; (conv => lhs; whnf); exact rfl; exact rfl; (first | (clear tg1; intro w' g1 HM') | (clear tg2; intro w' g2 HM') | (clear tg3; intro w' g3 HM') | (clear tg4; intro w' g4 HM') | intro w' g' HM'); clear HM; have HM := HM'; clear HM'; all_goals skip) | ((with_reducible apply own_alloc HM); exact rfl; (first | (with_reducible exact zeroP)); exact rfl; (first | (clear tg1; intro w' g1 HM') | (clear tg2; intro w' g2 HM') | (clear tg3; intro w' g3 HM') | (clear tg4; intro w' g4 HM') | intro w' g' HM'); clear HM; have HM := HM'; clear HM'; all_goals skip) | ((with_reducible apply own_cell HM); exact rfl; exact rfl; (first | (with_reducible exact oneInt)); (first | with_reducible exact .z | with_reducible exact .s .z | with_reducible exact .s (.s .z) | with_reducible exact .s (.s (.s .z)) | with_reducible exact .s (.s (.s (.s .z))) | with_reducible exact .s (.s (.s (.s (.s .z))))); (focus repeat' (first | with_reducible exact .z | with_reducible apply Drop.s)); exact rfl; all_goals skip) | ((with_reducible apply own_load HM); exact rfl; exact rfl; (first | (with_reducible exact aggP)); (first | with_reducible exact .z | with_reducible exact .s .z | with_reducible exact .s (.s .z) | with_reducible exact .s (.s (.s .z)) | with_reducible exact .s (.s (.s (.s .z))) | with_reducible exact .s (.s (.s (.s (.s .z))))); (focus repeat' (first | with_reducible exact .z | with_reducible apply Drop.s)); (focus repeat' (first | with_reducible exact .z | with_reducible apply Take.s)); exact rfl; all_goals skip) | ((with_reducible apply own_store HM); exact rfl; exact rfl; (conv => lhs; whnf); exact rfl; (first | with_reducible exact .z | with_reducible exact .s .z | with_reducible exact .s (.s .z) | with_reducible exact .s (.s (.s .z)) | with_reducible exact .s (.s (.s (.s .z))) | with_reducible exact .s (.s (.s (.s (.s .z))))); (focus repeat' (first | with_reducible exact .z | with_reducible apply Over.p | with_reducible apply Over.s)); (first | with_reducible exact .z | with_reducible exact .s .z | with_reducible exact .s (.s .z) | with_reducible exact .s (.s (.s .z)) | with_reducible exact .s (.s (.s (.s .z))) | with_reducible exact .s (.s (.s (.s (.s .z))))); (first | (with_reducible exact (aggP).size) | (with_reducible exact (oneInt).size)); exact rfl; exact rfl; exact rfl; exact rfl; intro w' HM'; clear HM; have HM := HM'; clear HM'; all_goals skip))
  all_goals (try ((refine own_region HM (by kernel_rfl) (by kernel_rfl) ?_; (try simp only [Act.put, List.setIfInBounds_toArray, List.set_cons_zero, List.set_cons_succ]); repeat ((fail_if_success (with_reducible refine wpQuiet_nil ?_)); first | go_big_quiet_skip | (go_big_quiet_want; first | ((with_reducible apply quiet_cell); exact rfl; (first | (with_reducible exact oneInt)); (first | with_reducible exact .z | with_reducible exact .s .z | with_reducible exact .s (.s .z) | with_reducible exact .s (.s (.s .z)) | with_reducible exact .s (.s (.s (.s .z))) | with_reducible exact .s (.s (.s (.s (.s .z))))); (focus repeat' (first | with_reducible exact .z | with_reducible apply Drop.s)); go_big_quiet_op; go_big_quiet_on) | ((with_reducible apply quiet_call); exact fun w => rfl; (focus (go_simp; all_goals with_reducible rfl)); (intro wq HQ; first | with_reducible exact (single_at y hy b hp _ (Tabs.own hT HQ)) | with_reducible exact (single_at z hz b hp _ (Tabs.own hT HQ)) | with_reducible exact (load_at (cSingle y b) (cSingle z b) (by assumption) (by assumption) _ (Tabs.own hT HQ))); go_big_quiet_op; go_big_quiet_on) | (go_big_quiet_op; go_big_quiet_on) | (go_big_quiet_op; refine ⟨_, fun _ _ => rfl, ?_⟩; go_big_quiet_on)))); ((refine wpQuiet_nil ?_; intro w' HM'; clear HM; have HM := HM'; clear HM'; go_wp2_with fail))))
  all_goals go_ret
  all_goals exact ⟨rfl, Own.fin HM⟩
theorem move_at (X : Int) (y z p q : Nat) (hy : y < 8) (hz : z < 8) (hp4 : p < 4) (hq : q < 2) (b : Tx) (hp : b ∈ pairs) (w : World) (hT : Tabs w) : Calls Tryd.prog 37 #[.agg #[.int .i64 X, .int .i64 (y : Int), .int .i64 (z : Int), .int .i64 (p : Int), .int .i64 (q : Int)], .string ⟨b.toArray⟩] w fun e w' => e = .returned (.string ⟨(cMove y z b).toArray⟩) ∧ Below w.heap.size w w' := by
  by_cases h1 : y = 6
  · subst h1
    by_cases h2 : z = 6
    · subst h2
      exact move_66 X p q hp4 hq b hp w hT
    · have e : cMove 6 z b = cLoad (cSingle 6 b) (sg t_singles z) := by rw [cMove, if_neg (fun h => h2 h.2), if_pos rfl]
      rw [e]
      exact move_6 X z p q hz hp4 hq b hp h2 w hT
  · by_cases h2 : z = 6
    · subst h2
      have e : cMove y 6 b = cLoad (sg t_singles y) (cSingle 6 b) := by rw [cMove, if_neg (fun h => h1 h.1), if_neg h1, if_pos rfl]
      rw [e]
      exact move_x6 X y p q hy hp4 hq b hp h1 w hT
    · have e : cMove y z b = cLoad (cSingle y b) (cSingle z b) := by rw [cMove, if_neg (fun h => h1 h.1), if_neg h1, if_neg h2]
      rw [e]
      exact move_xx X y z p q hy hz hp4 hq b hp h1 h2 w hT
end Go.Proofs.YtaiceidmcelapaaDoor
