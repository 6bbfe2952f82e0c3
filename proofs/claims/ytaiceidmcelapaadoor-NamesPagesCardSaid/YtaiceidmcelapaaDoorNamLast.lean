/-
  plainLast of package names, a contract for each number z.
-/
import Derived.Test.YtaiceidmcelapaaDoorNamCode2
set_option linter.unusedSimpArgs false
set_option linter.unusedVariables false
namespace Go.Proofs.YtaiceidmcelapaaDoor
open Go.RowKit

set_option maxRecDepth 100000 in
set_option maxHeartbeats 800000 in
theorem last_0 (X : Int) (y p q : Nat) (hy : y < 8) (hp4 : p < 4) (hq : q < 2) (b : Tx) (hp : b ∈ pairs) (w : World) (hTab : Tabs w) : Calls Tryd.prog 39 #[.agg #[.int .i64 X, .int .i64 (y : Int), .int .i64 0, .int .i64 (p : Int), .int .i64 (q : Int)], .string ⟨(b).toArray⟩] w fun e w' => e = .returned (.string ⟨(cLast y 0 p q b).toArray⟩) ∧ Below w.heap.size w w' := by
  have hT : Hid (Tabs w) := hTab
  have c1 := hTab.str (7, t_conditions) (by decide) y (hy)
  have l1 := len_sg t_conditions (by decide) y (hy)
  have l0 := len_pair b hp
  clear hTab
  have HM := Lib.hid (Own.start w)
  have tg1 : Hid True := trivial
  go_enter Tryd.func39, Tryd.ntmps39
  go_wp2_with (first
    | ((with_reducible apply own_box HM); exact rfl; (conv => lhs; whnf); exact rfl; exact rfl; (first | (clear tg1; intro w' g1 HM') | (clear tg2; intro w' g2 HM') | (clear tg3; intro w' g3 HM') | (clear tg4; intro w' g4 HM') | intro w' g' HM'); clear HM; have HM := HM'; clear HM'; all_goals skip) | ((with_reducible apply own_alloc HM); exact rfl; (first | (with_reducible exact zeroP)); exact rfl; (first | (clear tg1; intro w' g1 HM') | (clear tg2; intro w' g2 HM') | (clear tg3; intro w' g3 HM') | (clear tg4; intro w' g4 HM') | intro w' g' HM'); clear HM; have HM := HM'; clear HM'; all_goals skip) | ((with_reducible apply own_cell HM); exact rfl; exact rfl; (first | (with_reducible exact oneInt)); (first | with_reducible exact .z | with_reducible exact .s .z | with_reducible exact .s (.s .z) | with_reducible exact .s (.s (.s .z)) | with_reducible exact .s (.s (.s (.s .z))) | with_reducible exact .s (.s (.s (.s (.s .z))))); (focus repeat' (first | with_reducible exact .z | with_reducible apply Drop.s)); exact rfl; all_goals skip) | ((with_reducible apply own_load HM); exact rfl; exact rfl; (first | (with_reducible exact aggP)); (first | with_reducible exact .z | with_reducible exact .s .z | with_reducible exact .s (.s .z) | with_reducible exact .s (.s (.s .z)) | with_reducible exact .s (.s (.s (.s .z))) | with_reducible exact .s (.s (.s (.s (.s .z))))); (focus repeat' (first | with_reducible exact .z | with_reducible apply Drop.s)); (focus repeat' (first | with_reducible exact .z | with_reducible apply Take.s)); exact rfl; all_goals skip) | ((with_reducible apply own_store HM); exact rfl; exact rfl; (conv => lhs; whnf); exact rfl; (first | with_reducible exact .z | with_reducible exact .s .z | with_reducible exact .s (.s .z) | with_reducible exact .s (.s (.s .z)) | with_reducible exact .s (.s (.s (.s .z))) | with_reducible exact .s (.s (.s (.s (.s .z))))); (focus repeat' (first | with_reducible exact .z | with_reducible apply Over.p | with_reducible apply Over.s)); (first | with_reducible exact .z | with_reducible exact .s .z | with_reducible exact .s (.s .z) | with_reducible exact .s (.s (.s .z)) | with_reducible exact .s (.s (.s (.s .z))) | with_reducible exact .s (.s (.s (.s (.s .z))))); (first | (with_reducible exact (aggP).size) | (with_reducible exact (oneInt).size)); exact rfl; exact rfl; exact rfl; exact rfl; intro w' HM'; clear HM; have HM := HM'; clear HM'; all_goals skip)
    | ((with_reducible apply own_old HM); exact rfl; exact rfl; exact oneStr; (first | (with_reducible exact c1)); exact rfl; exact rfl; all_goals skip)
    | ((with_reducible apply own_cat); exact rfl; exact rfl; exact rfl; (first | assumption | decide | ((try simp only [List.length_append, List.length_cons, List.length_nil]); omega)); exact rfl; all_goals skip))
  all_goals go_ret
  all_goals exact ⟨rfl, Own.fin HM⟩
set_option maxRecDepth 100000 in
set_option maxHeartbeats 800000 in
theorem last_10 (X : Int) (y p : Nat) (hy : y < 8) (hp4 : p < 4) (b : Tx) (hp : b ∈ pairs) (w : World) (hTab : Tabs w) : Calls Tryd.prog 39 #[.agg #[.int .i64 X, .int .i64 (y : Int), .int .i64 1, .int .i64 (p : Int), .int .i64 0], .string ⟨(b).toArray⟩] w fun e w' => e = .returned (.string ⟨(cLast y 1 p 0 b).toArray⟩) ∧ Below w.heap.size w w' := by
  have hT : Hid (Tabs w) := hTab
  have c1 := hTab.str (7, t_conditions) (by decide) y (hy)
  have l1 := len_sg t_conditions (by decide) y (hy)
  have l0 := len_pair b hp
  have c2 := hTab.str (8, t_stacked) (by decide) p (hp4)
  have l2 := len_pointing2 b hp p hp4
  have l3 := len_sg t_stacked (by decide) p (by omega)
  clear hTab
  have HM := Lib.hid (Own.start w)
  have tg1 : Hid True := trivial
  go_enter Tryd.func39, Tryd.ntmps39
  go_wp2_with (first
    | ((with_reducible apply own_box HM); exact rfl; (conv => lhs; whnf); exact rfl; exact rfl; (first | (clear tg1; intro w' g1 HM') | (clear tg2; intro w' g2 HM') | (clear tg3; intro w' g3 HM') | (clear tg4; intro w' g4 HM') | intro w' g' HM'); clear HM; have HM := HM'; clear HM'; all_goals skip) | ((with_reducible apply own_alloc HM); exact rfl; (first | (with_reducible exact zeroP)); exact rfl; (first | (clear tg1; intro w' g1 HM') | (clear tg2; intro w' g2 HM') | (clear tg3; intro w' g3 HM') | (clear tg4; intro w' g4 HM') | intro w' g' HM'); clear HM; have HM := HM'; clear HM'; all_goals skip) | ((with_reducible apply own_cell HM); exact rfl; exact rfl; (first | (with_reducible exact oneInt)); (first | with_reducible exact .z | with_reducible exact .s .z | with_reducible exact .s (.s .z) | with_reducible exact .s (.s (.s .z)) | with_reducible exact .s (.s (.s (.s .z))) | with_reducible exact .s (.s (.s (.s (.s .z))))); (focus repeat' (first | with_reducible exact .z | with_reducible apply Drop.s)); exact rfl; all_goals skip) | ((with_reducible apply own_load HM); exact rfl; exact rfl; (first | (with_reducible exact aggP)); (first | with_reducible exact .z | with_reducible exact .s .z | with_reducible exact .s (.s .z) | with_reducible exact .s (.s (.s .z)) | with_reducible exact .s (.s (.s (.s .z))) | with_reducible exact .s (.s (.s (.s (.s .z))))); (focus repeat' (first | with_reducible exact .z | with_reducible apply Drop.s)); (focus repeat' (first | with_reducible exact .z | with_reducible apply Take.s)); exact rfl; all_goals skip) | ((with_reducible apply own_store HM); exact rfl; exact rfl; (conv => lhs; whnf); exact rfl; (first | with_reducible exact .z | with_reducible exact .s .z | with_reducible exact .s (.s .z) | with_reducible exact .s (.s (.s .z)) | with_reducible exact .s (.s (.s (.s .z))) | with_reducible exact .s (.s (.s (.s (.s .z))))); (focus repeat' (first | with_reducible exact .z | with_reducible apply Over.p | with_reducible apply Over.s)); (first | with_reducible exact .z | with_reducible exact .s .z | with_reducible exact .s (.s .z) | with_reducible exact .s (.s (.s .z)) | with_reducible exact .s (.s (.s (.s .z))) | with_reducible exact .s (.s (.s (.s (.s .z))))); (first | (with_reducible exact (aggP).size) | (with_reducible exact (oneInt).size)); exact rfl; exact rfl; exact rfl; exact rfl; intro w' HM'; clear HM; have HM := HM'; clear HM'; all_goals skip)
    | ((with_reducible apply own_old HM); exact rfl; exact rfl; exact oneStr; (first | (with_reducible exact c1) | (with_reducible exact c2)); exact rfl; exact rfl; all_goals skip)
    | ((with_reducible apply own_cat); exact rfl; exact rfl; exact rfl; (first | assumption | decide | ((try simp only [List.length_append, List.length_cons, List.length_nil]); omega)); exact rfl; all_goals skip)
    | (go_at_call 50; (first | (with_reducible refine (pointing_at _ _ _ (Tabs.own hT HM)).mono ?_) | (refine (pointing_at _ _ _ (Tabs.own hT HM)).mono ?_)); rintro e w' ⟨rfl, hb⟩; have HM' := Lib.hid (HM.out.call hb); clear HM hb; have HM := HM'; clear HM'))
  all_goals go_ret
  all_goals exact ⟨rfl, Own.fin HM⟩
set_option maxRecDepth 100000 in
set_option maxHeartbeats 800000 in
theorem last_11 (X : Int) (y p : Nat) (hy : y < 8) (hp4 : p < 4) (b : Tx) (hp : b ∈ pairs) (w : World) (hTab : Tabs w) : Calls Tryd.prog 39 #[.agg #[.int .i64 X, .int .i64 (y : Int), .int .i64 1, .int .i64 (p : Int), .int .i64 1], .string ⟨(b).toArray⟩] w fun e w' => e = .returned (.string ⟨(cLast y 1 p 1 b).toArray⟩) ∧ Below w.heap.size w w' := by
  have hT : Hid (Tabs w) := hTab
  have c1 := hTab.str (7, t_conditions) (by decide) y (hy)
  have l1 := len_sg t_conditions (by decide) y (hy)
  have l0 := len_pair b hp
  have c2 := hTab.str (8, t_stacked) (by decide) p (hp4)
  have l2 := len_pointing2 b hp p hp4
  have l3 := len_sg t_stacked (by decide) p (by omega)
  clear hTab
  have HM := Lib.hid (Own.start w)
  have tg1 : Hid True := trivial
  go_enter Tryd.func39, Tryd.ntmps39
  go_wp2_with (first
    | ((with_reducible apply own_box HM); exact rfl; (conv => lhs; whnf); exact rfl; exact rfl; (first | (clear tg1; intro w' g1 HM') | (clear tg2; intro w' g2 HM') | (clear tg3; intro w' g3 HM') | (clear tg4; intro w' g4 HM') | intro w' g' HM'); clear HM; have HM := HM'; clear HM'; all_goals skip) | ((with_reducible apply own_alloc HM); exact rfl; (first | (with_reducible exact zeroP)); exact rfl; (first | (clear tg1; intro w' g1 HM') | (clear tg2; intro w' g2 HM') | (clear tg3; intro w' g3 HM') | (clear tg4; intro w' g4 HM') | intro w' g' HM'); clear HM; have HM := HM'; clear HM'; all_goals skip) | ((with_reducible apply own_cell HM); exact rfl; exact rfl; (first | (with_reducible exact oneInt)); (first | with_reducible exact .z | with_reducible exact .s .z | with_reducible exact .s (.s .z) | with_reducible exact .s (.s (.s .z)) | with_reducible exact .s (.s (.s (.s .z))) | with_reducible exact .s (.s (.s (.s (.s .z))))); (focus repeat' (first | with_reducible exact .z | with_reducible apply Drop.s)); exact rfl; all_goals skip) | ((with_reducible apply own_load HM); exact rfl; exact rfl; (first | (with_reducible exact aggP)); (first | with_reducible exact .z | with_reducible exact .s .z | with_reducible exact .s (.s .z) | with_reducible exact .s (.s (.s .z)) | with_reducible exact .s (.s (.s (.s .z))) | with_reducible exact .s (.s (.s (.s (.s .z))))); (focus repeat' (first | with_reducible exact .z | with_reducible apply Drop.s)); (focus repeat' (first | with_reducible exact .z | with_reducible apply Take.s)); exact rfl; all_goals skip) | ((with_reducible apply own_store HM); exact rfl; exact rfl; (conv => lhs; whnf); exact rfl; (first | with_reducible exact .z | with_reducible exact .s .z | with_reducible exact .s (.s .z) | with_reducible exact .s (.s (.s .z)) | with_reducible exact .s (.s (.s (.s .z))) | with_reducible exact .s (.s (.s (.s (.s .z))))); (focus repeat' (first | with_reducible exact .z | with_reducible apply Over.p | with_reducible apply Over.s)); (first | with_reducible exact .z | with_reducible exact .s .z | with_reducible exact .s (.s .z) | with_reducible exact .s (.s (.s .z)) | with_reducible exact .s (.s (.s (.s .z))) | with_reducible exact .s (.s (.s (.s (.s .z))))); (first | (with_reducible exact (aggP).size) | (with_reducible exact (oneInt).size)); exact rfl; exact rfl; exact rfl; exact rfl; intro w' HM'; clear HM; have HM := HM'; clear HM'; all_goals skip)
    | ((with_reducible apply own_old HM); exact rfl; exact rfl; exact oneStr; (first | (with_reducible exact c1) | (with_reducible exact c2)); exact rfl; exact rfl; all_goals skip)
    | ((with_reducible apply own_cat); exact rfl; exact rfl; exact rfl; (first | assumption | decide | ((try simp only [List.length_append, List.length_cons, List.length_nil]); omega)); exact rfl; all_goals skip)
    | (go_at_call 55; (first | (with_reducible refine (back_at _ hp4 _ hp _ (Tabs.own hT HM)).mono ?_) | (refine (back_at _ hp4 _ hp _ (Tabs.own hT HM)).mono ?_)); rintro e w' ⟨rfl, hb⟩; have HM' := Lib.hid (HM.out.call hb); clear HM hb; have HM := HM'; clear HM'))
  all_goals go_ret
  all_goals exact ⟨rfl, Own.fin HM⟩
set_option maxRecDepth 100000 in
set_option maxHeartbeats 800000 in
theorem last_2 (X : Int) (y p q : Nat) (hy : y < 8) (hp4 : p < 4) (hq : q < 2) (b : Tx) (hp : b ∈ pairs) (w : World) (hTab : Tabs w) : Calls Tryd.prog 39 #[.agg #[.int .i64 X, .int .i64 (y : Int), .int .i64 2, .int .i64 (p : Int), .int .i64 (q : Int)], .string ⟨(b).toArray⟩] w fun e w' => e = .returned (.string ⟨(cLast y 2 p q b).toArray⟩) ∧ Below w.heap.size w w' := by
  have hT : Hid (Tabs w) := hTab
  have c1 := hTab.str (7, t_conditions) (by decide) y (hy)
  have l1 := len_sg t_conditions (by decide) y (hy)
  have l0 := len_pair b hp
  clear hTab
  have HM := Lib.hid (Own.start w)
  have tg1 : Hid True := trivial
  go_enter Tryd.func39, Tryd.ntmps39
  go_wp2_with (first
    | ((with_reducible apply own_box HM); exact rfl; (conv => lhs; whnf); exact rfl; exact rfl; (first | (clear tg1; intro w' g1 HM') | (clear tg2; intro w' g2 HM') | (clear tg3; intro w' g3 HM') | (clear tg4; intro w' g4 HM') | intro w' g' HM'); clear HM; have HM := HM'; clear HM'; all_goals skip) | ((with_reducible apply own_alloc HM); exact rfl; (first | (with_reducible exact zeroP)); exact rfl; (first | (clear tg1; intro w' g1 HM') | (clear tg2; intro w' g2 HM') | (clear tg3; intro w' g3 HM') | (clear tg4; intro w' g4 HM') | intro w' g' HM'); clear HM; have HM := HM'; clear HM'; all_goals skip) | ((with_reducible apply own_cell HM); exact rfl; exact rfl; (first | (with_reducible exact oneInt)); (first | with_reducible exact .z | with_reducible exact .s .z | with_reducible exact .s (.s .z) | with_reducible exact .s (.s (.s .z)) | with_reducible exact .s (.s (.s (.s .z))) | with_reducible exact .s (.s (.s (.s (.s .z))))); (focus repeat' (first | with_reducible exact .z | with_reducible apply Drop.s)); exact rfl; all_goals skip) | ((with_reducible apply own_load HM); exact rfl; exact rfl; (first | (with_reducible exact aggP)); (first | with_reducible exact .z | with_reducible exact .s .z | with_reducible exact .s (.s .z) | with_reducible exact .s (.s (.s .z)) | with_reducible exact .s (.s (.s (.s .z))) | with_reducible exact .s (.s (.s (.s (.s .z))))); (focus repeat' (first | with_reducible exact .z | with_reducible apply Drop.s)); (focus repeat' (first | with_reducible exact .z | with_reducible apply Take.s)); exact rfl; all_goals skip) | ((with_reducible apply own_store HM); exact rfl; exact rfl; (conv => lhs; whnf); exact rfl; (first | with_reducible exact .z | with_reducible exact .s .z | with_reducible exact .s (.s .z) | with_reducible exact .s (.s (.s .z)) | with_reducible exact .s (.s (.s (.s .z))) | with_reducible exact .s (.s (.s (.s (.s .z))))); (focus repeat' (first | with_reducible exact .z | with_reducible apply Over.p | with_reducible apply Over.s)); (first | with_reducible exact .z | with_reducible exact .s .z | with_reducible exact .s (.s .z) | with_reducible exact .s (.s (.s .z)) | with_reducible exact .s (.s (.s (.s .z))) | with_reducible exact .s (.s (.s (.s (.s .z))))); (first | (with_reducible exact (aggP).size) | (with_reducible exact (oneInt).size)); exact rfl; exact rfl; exact rfl; exact rfl; intro w' HM'; clear HM; have HM := HM'; clear HM'; all_goals skip)
    | ((with_reducible apply own_old HM); exact rfl; exact rfl; exact oneStr; (first | (with_reducible exact c1)); exact rfl; exact rfl; all_goals skip)
    | ((with_reducible apply own_cat); exact rfl; exact rfl; exact rfl; (first | assumption | decide | ((try simp only [List.length_append, List.length_cons, List.length_nil]); omega)); exact rfl; all_goals skip))
  all_goals go_ret
  all_goals exact ⟨rfl, Own.fin HM⟩
set_option maxRecDepth 100000 in
set_option maxHeartbeats 800000 in
theorem last_3 (X : Int) (y p q : Nat) (hy : y < 8) (hp4 : p < 4) (hq : q < 2) (b : Tx) (hp : b ∈ pairs) (w : World) (hTab : Tabs w) : Calls Tryd.prog 39 #[.agg #[.int .i64 X, .int .i64 (y : Int), .int .i64 3, .int .i64 (p : Int), .int .i64 (q : Int)], .string ⟨(b).toArray⟩] w fun e w' => e = .returned (.string ⟨(cLast y 3 p q b).toArray⟩) ∧ Below w.heap.size w w' := by
  have hT : Hid (Tabs w) := hTab
  have c1 := hTab.str (7, t_conditions) (by decide) y (hy)
  have l1 := len_sg t_conditions (by decide) y (hy)
  have l0 := len_pair b hp
  clear hTab
  have HM := Lib.hid (Own.start w)
  have tg1 : Hid True := trivial
  go_enter Tryd.func39, Tryd.ntmps39
  go_wp2_with (first
    | ((with_reducible apply own_box HM); exact rfl; (conv => lhs; whnf); exact rfl; exact rfl; (first | (clear tg1; intro w' g1 HM') | (clear tg2; intro w' g2 HM') | (clear tg3; intro w' g3 HM') | (clear tg4; intro w' g4 HM') | intro w' g' HM'); clear HM; have HM := HM'; clear HM'; all_goals skip) | ((with_reducible apply own_alloc HM); exact rfl; (first | (with_reducible exact zeroP)); exact rfl; (first | (clear tg1; intro w' g1 HM') | (clear tg2; intro w' g2 HM') | (clear tg3; intro w' g3 HM') | (clear tg4; intro w' g4 HM') | intro w' g' HM'); clear HM; have HM := HM'; clear HM'; all_goals skip) | ((with_reducible apply own_cell HM); exact rfl; exact rfl; (first | (with_reducible exact oneInt)); (first | with_reducible exact .z | with_reducible exact .s .z | with_reducible exact .s (.s .z) | with_reducible exact .s (.s (.s .z)) | with_reducible exact .s (.s (.s (.s .z))) | with_reducible exact .s (.s (.s (.s (.s .z))))); (focus repeat' (first | with_reducible exact .z | with_reducible apply Drop.s)); exact rfl; all_goals skip) | ((with_reducible apply own_load HM); exact rfl; exact rfl; (first | (with_reducible exact aggP)); (first | with_reducible exact .z | with_reducible exact .s .z | with_reducible exact .s (.s .z) | with_reducible exact .s (.s (.s .z)) | with_reducible exact .s (.s (.s (.s .z))) | with_reducible exact .s (.s (.s (.s (.s .z))))); (focus repeat' (first | with_reducible exact .z | with_reducible apply Drop.s)); (focus repeat' (first | with_reducible exact .z | with_reducible apply Take.s)); exact rfl; all_goals skip) | ((with_reducible apply own_store HM); exact rfl; exact rfl; (conv => lhs; whnf); exact rfl; (first | with_reducible exact .z | with_reducible exact .s .z | with_reducible exact .s (.s .z) | with_reducible exact .s (.s (.s .z)) | with_reducible exact .s (.s (.s (.s .z))) | with_reducible exact .s (.s (.s (.s (.s .z))))); (focus repeat' (first | with_reducible exact .z | with_reducible apply Over.p | with_reducible apply Over.s)); (first | with_reducible exact .z | with_reducible exact .s .z | with_reducible exact .s (.s .z) | with_reducible exact .s (.s (.s .z)) | with_reducible exact .s (.s (.s (.s .z))) | with_reducible exact .s (.s (.s (.s (.s .z))))); (first | (with_reducible exact (aggP).size) | (with_reducible exact (oneInt).size)); exact rfl; exact rfl; exact rfl; exact rfl; intro w' HM'; clear HM; have HM := HM'; clear HM'; all_goals skip)
    | ((with_reducible apply own_old HM); exact rfl; exact rfl; exact oneStr; (first | (with_reducible exact c1)); exact rfl; exact rfl; all_goals skip)
    | ((with_reducible apply own_cat); exact rfl; exact rfl; exact rfl; (first | assumption | decide | ((try simp only [List.length_append, List.length_cons, List.length_nil]); omega)); exact rfl; all_goals skip)
    | (go_at_call 56; (first | (with_reducible refine (mixed_at _ hy _ hp _ (Tabs.own hT HM)).mono ?_) | (refine (mixed_at _ hy _ hp _ (Tabs.own hT HM)).mono ?_)); rintro e w' ⟨rfl, hb⟩; have HM' := Lib.hid (HM.out.call hb); clear HM hb; have HM := HM'; clear HM'))
  all_goals go_ret
  all_goals exact ⟨rfl, Own.fin HM⟩
set_option maxRecDepth 100000 in
set_option maxHeartbeats 800000 in
theorem last_4 (X : Int) (y p q : Nat) (hy : y < 8) (hp4 : p < 4) (hq : q < 2) (b : Tx) (hp : b ∈ pairs) (w : World) (hTab : Tabs w) : Calls Tryd.prog 39 #[.agg #[.int .i64 X, .int .i64 (y : Int), .int .i64 4, .int .i64 (p : Int), .int .i64 (q : Int)], .string ⟨(b).toArray⟩] w fun e w' => e = .returned (.string ⟨(cLast y 4 p q b).toArray⟩) ∧ Below w.heap.size w w' := by
  have hT : Hid (Tabs w) := hTab
  have c1 := hTab.str (7, t_conditions) (by decide) y (hy)
  have l1 := len_sg t_conditions (by decide) y (hy)
  have l0 := len_pair b hp
  clear hTab
  have HM := Lib.hid (Own.start w)
  have tg1 : Hid True := trivial
  go_enter Tryd.func39, Tryd.ntmps39
  go_wp2_with (first
    | ((with_reducible apply own_box HM); exact rfl; (conv => lhs; whnf); exact rfl; exact rfl; (first | (clear tg1; intro w' g1 HM') | (clear tg2; intro w' g2 HM') | (clear tg3; intro w' g3 HM') | (clear tg4; intro w' g4 HM') | intro w' g' HM'); clear HM; have HM := HM'; clear HM'; all_goals skip) | ((with_reducible apply own_alloc HM); exact rfl; (first | (with_reducible exact zeroP)); exact rfl; (first | (clear tg1; intro w' g1 HM') | (clear tg2; intro w' g2 HM') | (clear tg3; intro w' g3 HM') | (clear tg4; intro w' g4 HM') | intro w' g' HM'); clear HM; have HM := HM'; clear HM'; all_goals skip) | ((with_reducible apply own_cell HM); exact rfl; exact rfl; (first | (with_reducible exact oneInt)); (first | with_reducible exact .z | with_reducible exact .s .z | with_reducible exact .s (.s .z) | with_reducible exact .s (.s (.s .z)) | with_reducible exact .s (.s (.s (.s .z))) | with_reducible exact .s (.s (.s (.s (.s .z))))); (focus repeat' (first | with_reducible exact .z | with_reducible apply Drop.s)); exact rfl; all_goals skip) | ((with_reducible apply own_load HM); exact rfl; exact rfl; (first | (with_reducible exact aggP)); (first | with_reducible exact .z | with_reducible exact .s .z | with_reducible exact .s (.s .z) | with_reducible exact .s (.s (.s .z)) | with_reducible exact .s (.s (.s (.s .z))) | with_reducible exact .s (.s (.s (.s (.s .z))))); (focus repeat' (first | with_reducible exact .z | with_reducible apply Drop.s)); (focus repeat' (first | with_reducible exact .z | with_reducible apply Take.s)); exact rfl; all_goals skip) | ((with_reducible apply own_store HM); exact rfl; exact rfl; (conv => lhs; whnf); exact rfl; (first | with_reducible exact .z | with_reducible exact .s .z | with_reducible exact .s (.s .z) | with_reducible exact .s (.s (.s .z)) | with_reducible exact .s (.s (.s (.s .z))) | with_reducible exact .s (.s (.s (.s (.s .z))))); (focus repeat' (first | with_reducible exact .z | with_reducible apply Over.p | with_reducible apply Over.s)); (first | with_reducible exact .z | with_reducible exact .s .z | with_reducible exact .s (.s .z) | with_reducible exact .s (.s (.s .z)) | with_reducible exact .s (.s (.s (.s .z))) | with_reducible exact .s (.s (.s (.s (.s .z))))); (first | (with_reducible exact (aggP).size) | (with_reducible exact (oneInt).size)); exact rfl; exact rfl; exact rfl; exact rfl; intro w' HM'; clear HM; have HM := HM'; clear HM'; all_goals skip)
    | ((with_reducible apply own_old HM); exact rfl; exact rfl; exact oneStr; (first | (with_reducible exact c1)); exact rfl; exact rfl; all_goals skip)
    | ((with_reducible apply own_cat); exact rfl; exact rfl; exact rfl; (first | assumption | decide | ((try simp only [List.length_append, List.length_cons, List.length_nil]); omega)); exact rfl; all_goals skip))
  all_goals go_ret
  all_goals exact ⟨rfl, Own.fin HM⟩
set_option maxRecDepth 100000 in
set_option maxHeartbeats 800000 in
theorem last_50 (X : Int) (y p : Nat) (hy : y < 8) (hp4 : p < 4) (b : Tx) (hp : b ∈ pairs) (w : World) (hTab : Tabs w) : Calls Tryd.prog 39 #[.agg #[.int .i64 X, .int .i64 (y : Int), .int .i64 5, .int .i64 (p : Int), .int .i64 0], .string ⟨(b).toArray⟩] w fun e w' => e = .returned (.string ⟨(cLast y 5 p 0 b).toArray⟩) ∧ Below w.heap.size w w' := by
  have hT : Hid (Tabs w) := hTab
  have c1 := hTab.str (7, t_conditions) (by decide) y (hy)
  have l1 := len_sg t_conditions (by decide) y (hy)
  have l0 := len_pair b hp
  have c2 := hTab.str (8, t_stacked) (by decide) p (hp4)
  have l2 := len_pointing2 b hp p hp4
  have l3 := len_sg t_stacked (by decide) p (by omega)
  clear hTab
  have HM := Lib.hid (Own.start w)
  have tg1 : Hid True := trivial
  go_enter Tryd.func39, Tryd.ntmps39
  go_wp2_with (first
    | ((with_reducible apply own_box HM); exact rfl; (conv => lhs; whnf); exact rfl; exact rfl; (first | (clear tg1; intro w' g1 HM') | (clear tg2; intro w' g2 HM') | (clear tg3; intro w' g3 HM') | (clear tg4; intro w' g4 HM') | intro w' g' HM'); clear HM; have HM := HM'; clear HM'; all_goals skip) | ((with_reducible apply own_alloc HM); exact rfl; (first | (with_reducible exact zeroP)); exact rfl; (first | (clear tg1; intro w' g1 HM') | (clear tg2; intro w' g2 HM') | (clear tg3; intro w' g3 HM') | (clear tg4; intro w' g4 HM') | intro w' g' HM'); clear HM; have HM := HM'; clear HM'; all_goals skip) | ((with_reducible apply own_cell HM); exact rfl; exact rfl; (first | (with_reducible exact oneInt)); (first | with_reducible exact .z | with_reducible exact .s .z | with_reducible exact .s (.s .z) | with_reducible exact .s (.s (.s .z)) | with_reducible exact .s (.s (.s (.s .z))) | with_reducible exact .s (.s (.s (.s (.s .z))))); (focus repeat' (first | with_reducible exact .z | with_reducible apply Drop.s)); exact rfl; all_goals skip) | ((with_reducible apply own_load HM); exact rfl; exact rfl; (first | (with_reducible exact aggP)); (first | with_reducible exact .z | with_reducible exact .s .z | with_reducible exact .s (.s .z) | with_reducible exact .s (.s (.s .z)) | with_reducible exact .s (.s (.s (.s .z))) | with_reducible exact .s (.s (.s (.s (.s .z))))); (focus repeat' (first | with_reducible exact .z | with_reducible apply Drop.s)); (focus repeat' (first | with_reducible exact .z | with_reducible apply Take.s)); exact rfl; all_goals skip) | ((with_reducible apply own_store HM); exact rfl; exact rfl; (conv => lhs; whnf); exact rfl; (first | with_reducible exact .z | with_reducible exact .s .z | with_reducible exact .s (.s .z) | with_reducible exact .s (.s (.s .z)) | with_reducible exact .s (.s (.s (.s .z))) | with_reducible exact .s (.s (.s (.s (.s .z))))); (focus repeat' (first | with_reducible exact .z | with_reducible apply Over.p | with_reducible apply Over.s)); (first | with_reducible exact .z | with_reducible exact .s .z | with_reducible exact .s (.s .z) | with_reducible exact .s (.s (.s .z)) | with_reducible exact .s (.s (.s (.s .z))) | with_reducible exact .s (.s (.s (.s (.s .z))))); (first | (with_reducible exact (aggP).size) | (with_reducible exact (oneInt).size)); exact rfl; exact rfl; exact rfl; exact rfl; intro w' HM'; clear HM; have HM := HM'; clear HM'; all_goals skip)
    | ((with_reducible apply own_old HM); exact rfl; exact rfl; exact oneStr; (first | (with_reducible exact c1) | (with_reducible exact c2)); exact rfl; exact rfl; all_goals skip)
    | ((with_reducible apply own_cat); exact rfl; exact rfl; exact rfl; (first | assumption | decide | ((try simp only [List.length_append, List.length_cons, List.length_nil]); omega)); exact rfl; all_goals skip)
    | (go_at_call 50; (first | (with_reducible refine (pointing_at _ _ _ (Tabs.own hT HM)).mono ?_) | (refine (pointing_at _ _ _ (Tabs.own hT HM)).mono ?_)); rintro e w' ⟨rfl, hb⟩; have HM' := Lib.hid (HM.out.call hb); clear HM hb; have HM := HM'; clear HM'))
  all_goals go_ret
  all_goals exact ⟨rfl, Own.fin HM⟩
set_option maxRecDepth 100000 in
set_option maxHeartbeats 800000 in
theorem last_51 (X : Int) (y p : Nat) (hy : y < 8) (hp4 : p < 4) (b : Tx) (hp : b ∈ pairs) (w : World) (hTab : Tabs w) : Calls Tryd.prog 39 #[.agg #[.int .i64 X, .int .i64 (y : Int), .int .i64 5, .int .i64 (p : Int), .int .i64 1], .string ⟨(b).toArray⟩] w fun e w' => e = .returned (.string ⟨(cLast y 5 p 1 b).toArray⟩) ∧ Below w.heap.size w w' := by
  have hT : Hid (Tabs w) := hTab
  have c1 := hTab.str (7, t_conditions) (by decide) y (hy)
  have l1 := len_sg t_conditions (by decide) y (hy)
  have l0 := len_pair b hp
  have c2 := hTab.str (8, t_stacked) (by decide) p (hp4)
  have l2 := len_pointing2 b hp p hp4
  have l3 := len_sg t_stacked (by decide) p (by omega)
  clear hTab
  have HM := Lib.hid (Own.start w)
  have tg1 : Hid True := trivial
  go_enter Tryd.func39, Tryd.ntmps39
  go_wp2_with (first
    | ((with_reducible apply own_box HM); exact rfl; (conv => lhs; whnf); exact rfl; exact rfl; (first | (clear tg1; intro w' g1 HM') | (clear tg2; intro w' g2 HM') | (clear tg3; intro w' g3 HM') | (clear tg4; intro w' g4 HM') | intro w' g' HM'); clear HM; have HM := HM'; clear HM'; all_goals skip) | ((with_reducible apply own_alloc HM); exact rfl; (first | (with_reducible exact zeroP)); exact rfl; (first | (clear tg1; intro w' g1 HM') | (clear tg2; intro w' g2 HM') | (clear tg3; intro w' g3 HM') | (clear tg4; intro w' g4 HM') | intro w' g' HM'); clear HM; have HM := HM'; clear HM'; all_goals skip) | ((with_reducible apply own_cell HM); exact rfl; exact rfl; (first | (with_reducible exact oneInt)); (first | with_reducible exact .z | with_reducible exact .s .z | with_reducible exact .s (.s .z) | with_reducible exact .s (.s (.s .z)) | with_reducible exact .s (.s (.s (.s .z))) | with_reducible exact .s (.s (.s (.s (.s .z))))); (focus repeat' (first | with_reducible exact .z | with_reducible apply Drop.s)); exact rfl; all_goals skip) | ((with_reducible apply own_load HM); exact rfl; exact rfl; (first | (with_reducible exact aggP)); (first | with_reducible exact .z | with_reducible exact .s .z | with_reducible exact .s (.s .z) | with_reducible exact .s (.s (.s .z)) | with_reducible exact .s (.s (.s (.s .z))) | with_reducible exact .s (.s (.s (.s (.s .z))))); (focus repeat' (first | with_reducible exact .z | with_reducible apply Drop.s)); (focus repeat' (first | with_reducible exact .z | with_reducible apply Take.s)); exact rfl; all_goals skip) | ((with_reducible apply own_store HM); exact rfl; exact rfl; (conv => lhs; whnf); exact rfl; (first | with_reducible exact .z | with_reducible exact .s .z | with_reducible exact .s (.s .z) | with_reducible exact .s (.s (.s .z)) | with_reducible exact .s (.s (.s (.s .z))) | with_reducible exact .s (.s (.s (.s (.s .z))))); (focus repeat' (first | with_reducible exact .z | with_reducible apply Over.p | with_reducible apply Over.s)); (first | with_reducible exact .z | with_reducible exact .s .z | with_reducible exact .s (.s .z) | with_reducible exact .s (.s (.s .z)) | with_reducible exact .s (.s (.s (.s .z))) | with_reducible exact .s (.s (.s (.s (.s .z))))); (first | (with_reducible exact (aggP).size) | (with_reducible exact (oneInt).size)); exact rfl; exact rfl; exact rfl; exact rfl; intro w' HM'; clear HM; have HM := HM'; clear HM'; all_goals skip)
    | ((with_reducible apply own_old HM); exact rfl; exact rfl; exact oneStr; (first | (with_reducible exact c1) | (with_reducible exact c2)); exact rfl; exact rfl; all_goals skip)
    | ((with_reducible apply own_cat); exact rfl; exact rfl; exact rfl; (first | assumption | decide | ((try simp only [List.length_append, List.length_cons, List.length_nil]); omega)); exact rfl; all_goals skip)
    | (go_at_call 57; (first | (with_reducible refine (ahead_at _ hp4 _ (Tabs.own hT HM)).mono ?_) | (refine (ahead_at _ hp4 _ (Tabs.own hT HM)).mono ?_)); rintro e w' ⟨rfl, hb⟩; have HM' := Lib.hid (HM.out.call hb); clear HM hb; have HM := HM'; clear HM'))
  all_goals go_ret
  all_goals exact ⟨rfl, Own.fin HM⟩
set_option maxRecDepth 100000 in
set_option maxHeartbeats 800000 in
theorem last_6 (X : Int) (y p q : Nat) (hy : y < 8) (hp4 : p < 4) (hq : q < 2) (b : Tx) (hp : b ∈ pairs) (w : World) (hTab : Tabs w) : Calls Tryd.prog 39 #[.agg #[.int .i64 X, .int .i64 (y : Int), .int .i64 6, .int .i64 (p : Int), .int .i64 (q : Int)], .string ⟨(b).toArray⟩] w fun e w' => e = .returned (.string ⟨(cLast y 6 p q b).toArray⟩) ∧ Below w.heap.size w w' := by
  have hT : Hid (Tabs w) := hTab
  have c1 := hTab.str (7, t_conditions) (by decide) y (hy)
  have l1 := len_sg t_conditions (by decide) y (hy)
  have l0 := len_pair b hp
  have c2 := hTab.str (1, t_eightSums) (by decide) y (hy)
  have l4 := len_sg t_eightSums (by decide) y (hy)
  clear hTab
  have HM := Lib.hid (Own.start w)
  have tg1 : Hid True := trivial
  go_enter Tryd.func39, Tryd.ntmps39
  go_wp2_with (first
    | ((with_reducible apply own_box HM); exact rfl; (conv => lhs; whnf); exact rfl; exact rfl; (first | (clear tg1; intro w' g1 HM') | (clear tg2; intro w' g2 HM') | (clear tg3; intro w' g3 HM') | (clear tg4; intro w' g4 HM') | intro w' g' HM'); clear HM; have HM := HM'; clear HM'; all_goals skip) | ((with_reducible apply own_alloc HM); exact rfl; (first | (with_reducible exact zeroP)); exact rfl; (first | (clear tg1; intro w' g1 HM') | (clear tg2; intro w' g2 HM') | (clear tg3; intro w' g3 HM') | (clear tg4; intro w' g4 HM') | intro w' g' HM'); clear HM; have HM := HM'; clear HM'; all_goals skip) | ((with_reducible apply own_cell HM); exact rfl; exact rfl; (first | (with_reducible exact oneInt)); (first | with_reducible exact .z | with_reducible exact .s .z | with_reducible exact .s (.s .z) | with_reducible exact .s (.s (.s .z)) | with_reducible exact .s (.s (.s (.s .z))) | with_reducible exact .s (.s (.s (.s (.s .z))))); (focus repeat' (first | with_reducible exact .z | with_reducible apply Drop.s)); exact rfl; all_goals skip) | ((with_reducible apply own_load HM); exact rfl; exact rfl; (first | (with_reducible exact aggP)); (first | with_reducible exact .z | with_reducible exact .s .z | with_reducible exact .s (.s .z) | with_reducible exact .s (.s (.s .z)) | with_reducible exact .s (.s (.s (.s .z))) | with_reducible exact .s (.s (.s (.s (.s .z))))); (focus repeat' (first | with_reducible exact .z | with_reducible apply Drop.s)); (focus repeat' (first | with_reducible exact .z | with_reducible apply Take.s)); exact rfl; all_goals skip) | ((with_reducible apply own_store HM); exact rfl; exact rfl; (conv => lhs; whnf); exact rfl; (first | with_reducible exact .z | with_reducible exact .s .z | with_reducible exact .s (.s .z) | with_reducible exact .s (.s (.s .z)) | with_reducible exact .s (.s (.s (.s .z))) | with_reducible exact .s (.s (.s (.s (.s .z))))); (focus repeat' (first | with_reducible exact .z | with_reducible apply Over.p | with_reducible apply Over.s)); (first | with_reducible exact .z | with_reducible exact .s .z | with_reducible exact .s (.s .z) | with_reducible exact .s (.s (.s .z)) | with_reducible exact .s (.s (.s (.s .z))) | with_reducible exact .s (.s (.s (.s (.s .z))))); (first | (with_reducible exact (aggP).size) | (with_reducible exact (oneInt).size)); exact rfl; exact rfl; exact rfl; exact rfl; intro w' HM'; clear HM; have HM := HM'; clear HM'; all_goals skip)
    | ((with_reducible apply own_old HM); exact rfl; exact rfl; exact oneStr; (first | (with_reducible exact c1) | (with_reducible exact c2)); exact rfl; exact rfl; all_goals skip)
    | ((with_reducible apply own_cat); exact rfl; exact rfl; exact rfl; (first | assumption | decide | ((try simp only [List.length_append, List.length_cons, List.length_nil]); omega)); exact rfl; all_goals skip))
  all_goals go_ret
  all_goals exact ⟨rfl, Own.fin HM⟩
set_option maxRecDepth 100000 in
set_option maxHeartbeats 800000 in
theorem last_7 (X : Int) (y p q : Nat) (hy : y < 8) (hp4 : p < 4) (hq : q < 2) (b : Tx) (hp : b ∈ pairs) (w : World) (hTab : Tabs w) : Calls Tryd.prog 39 #[.agg #[.int .i64 X, .int .i64 (y : Int), .int .i64 7, .int .i64 (p : Int), .int .i64 (q : Int)], .string ⟨(b).toArray⟩] w fun e w' => e = .returned (.string ⟨(cLast y 7 p q b).toArray⟩) ∧ Below w.heap.size w w' := by
  have hT : Hid (Tabs w) := hTab
  have c1 := hTab.str (7, t_conditions) (by decide) y (hy)
  have l1 := len_sg t_conditions (by decide) y (hy)
  have l0 := len_pair b hp
  have l5 := len_dec (8 * y) (by omega)
  clear hTab
  have HM := Lib.hid (Own.start w)
  have tg1 : Hid True := trivial
  go_enter Tryd.func39, Tryd.ntmps39
  go_wp2_with (first
    | ((with_reducible apply own_box HM); exact rfl; (conv => lhs; whnf); exact rfl; exact rfl; (first | (clear tg1; intro w' g1 HM') | (clear tg2; intro w' g2 HM') | (clear tg3; intro w' g3 HM') | (clear tg4; intro w' g4 HM') | intro w' g' HM'); clear HM; have HM := HM'; clear HM'; all_goals skip) | ((with_reducible apply own_alloc HM); exact rfl; (first | (with_reducible exact zeroP)); exact rfl; (first | (clear tg1; intro w' g1 HM') | (clear tg2; intro w' g2 HM') | (clear tg3; intro w' g3 HM') | (clear tg4; intro w' g4 HM') | intro w' g' HM'); clear HM; have HM := HM'; clear HM'; all_goals skip) | ((with_reducible apply own_cell HM); exact rfl; exact rfl; (first | (with_reducible exact oneInt)); (first | with_reducible exact .z | with_reducible exact .s .z | with_reducible exact .s (.s .z) | with_reducible exact .s (.s (.s .z)) | with_reducible exact .s (.s (.s (.s .z))) | with_reducible exact .s (.s (.s (.s (.s .z))))); (focus repeat' (first | with_reducible exact .z | with_reducible apply Drop.s)); exact rfl; all_goals skip) | ((with_reducible apply own_load HM); exact rfl; exact rfl; (first | (with_reducible exact aggP)); (first | with_reducible exact .z | with_reducible exact .s .z | with_reducible exact .s (.s .z) | with_reducible exact .s (.s (.s .z)) | with_reducible exact .s (.s (.s (.s .z))) | with_reducible exact .s (.s (.s (.s (.s .z))))); (focus repeat' (first | with_reducible exact .z | with_reducible apply Drop.s)); (focus repeat' (first | with_reducible exact .z | with_reducible apply Take.s)); exact rfl; all_goals skip) | ((with_reducible apply own_store HM); exact rfl; exact rfl; (conv => lhs; whnf); exact rfl; (first | with_reducible exact .z | with_reducible exact .s .z | with_reducible exact .s (.s .z) | with_reducible exact .s (.s (.s .z)) | with_reducible exact .s (.s (.s (.s .z))) | with_reducible exact .s (.s (.s (.s (.s .z))))); (focus repeat' (first | with_reducible exact .z | with_reducible apply Over.p | with_reducible apply Over.s)); (first | with_reducible exact .z | with_reducible exact .s .z | with_reducible exact .s (.s .z) | with_reducible exact .s (.s (.s .z)) | with_reducible exact .s (.s (.s (.s .z))) | with_reducible exact .s (.s (.s (.s (.s .z))))); (first | (with_reducible exact (aggP).size) | (with_reducible exact (oneInt).size)); exact rfl; exact rfl; exact rfl; exact rfl; intro w' HM'; clear HM; have HM := HM'; clear HM'; all_goals skip)
    | ((with_reducible apply own_old HM); exact rfl; exact rfl; exact oneStr; (first | (with_reducible exact c1)); exact rfl; exact rfl; all_goals skip)
    | ((with_reducible apply own_cat); exact rfl; exact rfl; exact rfl; (first | assumption | decide | ((try simp only [List.length_append, List.length_cons, List.length_nil]); omega)); exact rfl; all_goals skip)
    | (go_at_call 40; (first | (with_reducible refine (itoa_eight y hy _).mono ?_) | (refine (itoa_eight y hy _).mono ?_)); rintro e w' ⟨rfl, hb⟩; have HM' := Lib.hid (HM.out.call hb); clear HM hb; have HM := HM'; clear HM'))
  all_goals go_ret
  all_goals exact ⟨rfl, Own.fin HM⟩
theorem last_at (X : Int) (y z p q : Nat) (hy : y < 8) (hz : z < 8) (hp4 : p < 4) (hq : q < 2) (b : Tx) (hp : b ∈ pairs) (w : World) (hT : Tabs w) : Calls Tryd.prog 39 #[.agg #[.int .i64 X, .int .i64 (y : Int), .int .i64 (z : Int), .int .i64 (p : Int), .int .i64 (q : Int)], .string ⟨b.toArray⟩] w fun e w' => e = .returned (.string ⟨(cLast y z p q b).toArray⟩) ∧ Below w.heap.size w w' := by
  match z, hz, q, hq with
  | 0, _, q, hq => exact last_0 X y p q hy hp4 hq b hp w hT
  | 1, _, 0, _ => exact last_10 X y p hy hp4 b hp w hT
  | 1, _, 1, _ => exact last_11 X y p hy hp4 b hp w hT
  | 2, _, q, hq => exact last_2 X y p q hy hp4 hq b hp w hT
  | 3, _, q, hq => exact last_3 X y p q hy hp4 hq b hp w hT
  | 4, _, q, hq => exact last_4 X y p q hy hp4 hq b hp w hT
  | 5, _, 0, _ => exact last_50 X y p hy hp4 b hp w hT
  | 5, _, 1, _ => exact last_51 X y p hy hp4 b hp w hT
  | 6, _, q, hq => exact last_6 X y p q hy hp4 hq b hp w hT
  | 7, _, q, hq => exact last_7 X y p q hy hp4 hq b hp w hT
end Go.Proofs.YtaiceidmcelapaaDoor
