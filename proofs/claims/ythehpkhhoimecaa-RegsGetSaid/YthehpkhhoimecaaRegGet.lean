/-
  The law RegsGet returns true for any registers, number and prefix, and writes nothing that was there.
-/
import Derived.Test.YthehpkhhoimecaaRegRefLet
import Derived.Test.YthehpkhhoimecaaDrawnMore
import Derived.Deep.Cut
import Derived.Deep.CutRange
import Derived.Test.YthehpkhhoimecaaRegAlive
namespace Go.Proofs.Ythehpkhhoimecaa
open Go.RowKit

theorem let_list (n : Int) (px : Nat) (hn : 0 ≤ n ∧ n ≤ 7 ∧ ¬ n = 6) : (rgLet n px).toList.isEmpty = false := by
  rcases (show n = 0 ∨ n = 1 ∨ n = 2 ∨ n = 3 ∨ n = 7 ∨ n = 4 ∨ n = 5 by omega) with rfl | rfl | rfl | rfl | rfl | rfl | rfl
  all_goals (unfold rgLet; simp only [Int.reduceEq, if_true, if_false]; (repeat' split) <;> decide +kernel)
theorem oneStr : One Try.prog 9 := ⟨⟨_, Try.underlying9, rfl⟩, by kernel_rfl⟩
set_option maxRecDepth 100000 in
set_option maxHeartbeats 3200000 in
theorem get_k (r : Rg) (hr : r.Fits) (k : Nat) (hk : (k : Int) < 6) (px : Nat) (w : World) : Calls Try.prog 4 #[r.v, .int .i64 (k : Int), .int .u8 (px : Int)] w fun e w' => e = .returned (.bool true) ∧ Below w.heap.size w w' := by
  obtain ⟨P, hP⟩ : ∃ P, Hid (r.pair (k : Int) = P) := ⟨_, rfl⟩
  have HLE := Lib.hid (show 0 ≤ (k : Int) ∧ (k : Int) ≤ 7 ∧ ¬ (k : Int) = 6 by omega)
  obtain ⟨O, hO⟩ : ∃ O, Hid (r.one (k : Int) px = O) := ⟨_, rfl⟩
  have O1 : (O : Int) < 256 := by rw [← hO.out]; have := r.one_lt hr (k : Int) px; omega
  obtain ⟨L, hL⟩ : ∃ L, Hid (rgLet (k : Int) px = L) := ⟨_, rfl⟩
  have hne : L.toList.isEmpty = false := by rw [← hL.out]; exact let_list (k : Int) px HLE.out
  have HK := Lib.hid (name_at k (by omega))
  have HK7 : Hid (k < 7) := by show _ < 7; omega
  obtain ⟨b, hb⟩ : ∃ b, Hid (r.right = b) := ⟨_, rfl⟩
  have HR := Lib.hid hr
  clear hr
  have HM := Lib.hid (Own.start w)
  have tg1 : Hid True := trivial
  have tg2 : Hid True := trivial
  go_enter Try.func4, Try.ntmps4
  go_upto_region 5 with (first
    | ((with_reducible apply own_box HM); exact rfl; (conv => lhs; whnf); exact rfl; exact rfl; (first | (clear tg1; intro w' g1 HM') | (clear tg2; intro w' g2 HM') | (clear tg3; intro w' g3 HM') | (clear tg4; intro w' g4 HM') | intro w' g' HM'); clear HM; have HM := HM'; clear HM'; all_goals skip) | ((with_reducible apply own_row HM); exact rfl; exact rfl; exact aggR; (first | with_reducible exact .z | with_reducible exact .s .z | with_reducible exact .s (.s .z) | with_reducible exact .s (.s (.s .z)) | with_reducible exact .s (.s (.s (.s .z))) | with_reducible exact .s (.s (.s (.s (.s .z))))); exact rfl; (first | exact Rg.cells_length _ | exact rfl); all_goals skip)
    | (go_at_call 7; (with_reducible refine (regsAlive_any _).mono ?_); rintro e w' ⟨rfl, hb⟩; have HM' := Lib.hid (HM.out.call hb); clear HM hb; have HM := HM'; clear HM')
    | (go_at_call 14; (with_reducible refine (letters_at (k : Int) px _ hL _).mono ?_); rintro e w' ⟨rfl, rfl⟩)
    | (go_at_call 13; (with_reducible refine (rnames_at _).mono ?_); rintro e w' ⟨g2, hg, rfl, hb, hW⟩; have HM' := Lib.hid (HM.out.plus hb hg hW); clear HM hb hg hW; have HM := HM'; clear HM')
    | ((with_reducible apply own_get HM); exact rfl; exact rfl; exact oneStr; exact .z; exact HK.out; exact rfl; all_goals skip)
    | (go_at_call 12; (with_reducible refine (rget_name r HR.out k HK7.out P hP _).mono ?_); rintro e w' ⟨rfl, hb⟩; have HM' := Lib.hid (HM.out.call hb); clear HM hb; have HM := HM'; clear HM')
    | (go_at_call 12; (with_reducible refine (rget_let r HR.out (k : Int) px HLE.out L hL O hO _).mono ?_); rintro e w' ⟨rfl, hb⟩; have HM' := Lib.hid (HM.out.call hb); clear HM hb; have HM := HM'; clear HM'))
  refine wp_region_held (S := fun w' => Own w w' [(g1, 26, r.cells)]) (by kernel_rfl) ?_
  have HM' := Lib.hid HM.out.drew
  change wpAnyH _ _ _ _ _ _ _ _ (World.drew _)
  clear HM; have HM := HM'; clear HM'
  have HQ := HM.out
  refine h_take (i := 0) (d := 18) (v := .agg r.cells.toArray) rfl rfl (by kernel_rfl) (by kernel_rfl) (by kernel_rfl) (fun _ _ _ h => h) (y_row rfl rfl aggR .z (Rg.cells_length _) rfl) HQ ?_
  (try simp only [Act.put, List.setIfInBounds_toArray, List.set_cons_zero, List.set_cons_succ])
  refine h_take (i := 2) (d := 20) (v := .int .i64 (k : Int)) rfl rfl (by kernel_rfl) (by kernel_rfl) (by kernel_rfl) (fun _ _ _ h => h) (y_pure rfl (fun w => by go_simp)) HQ ?_
  (try simp only [Act.put, List.setIfInBounds_toArray, List.set_cons_zero, List.set_cons_succ])
  refine wpAnyH_all (rs := [1]) (by kernel_rfl) (by simp) ?_
  intro i hi
  obtain rfl := List.mem_singleton.1 hi
  refine wpOp_of rfl rfl ?_
  refine w_call (f := 13) (args := #[]) (fun w => rfl) (by go_simp) ?_
  refine (rnames_at _).mono ?_
  rintro e w2 ⟨g2, hg, rfl, hb2, hW⟩
  have HM2 := Lib.hid (HM.out.plus hb2 hg hW)
  have HQ2 := HM.out.call hb2
  clear hb2 hg hW HM HQ
  refine ⟨_, rfl, HQ2, ?_⟩
  change wpAnyH _ _ _ _ _ _ _ (Act.put _ (some 19) _) _
  (try simp only [Act.put, List.setIfInBounds_toArray, List.set_cons_zero, List.set_cons_succ])
  refine h_take (i := 3) (d := 21) (v := .pointer (some ⟨g2, k, none⟩)) rfl rfl (by kernel_rfl) (by kernel_rfl) (by kernel_rfl) (fun _ _ _ h => h) (y_pure rfl (fun w => by go_simp)) HQ2 ?_
  (try simp only [Act.put, List.setIfInBounds_toArray, List.set_cons_zero, List.set_cons_succ])
  refine wpAnyH_all (rs := [4]) (by kernel_rfl) (by simp) ?_
  intro i hi
  obtain rfl := List.mem_singleton.1 hi
  refine wpOp_of rfl rfl ?_
  refine w_get HM2 rfl rfl oneStr .z HK.out ?_
  refine ⟨HQ2, ?_⟩
  change wpAnyH _ _ _ _ _ _ _ (Act.put _ (some 22) _) _
  (try simp only [Act.put, List.setIfInBounds_toArray, List.set_cons_zero, List.set_cons_succ])
  refine wpAnyH_all (rs := [5]) (by kernel_rfl) (by simp) ?_
  intro i hi
  obtain rfl := List.mem_singleton.1 hi
  refine wpOp_of rfl rfl ?_
  refine w_call (f := 12) (args := #[r.v, .string (rgName k)]) (fun w => rfl) (by go_simp) ?_
  refine (rget_name r HR.out k HK7.out P hP _).mono ?_
  rintro e w3 ⟨rfl, hb3⟩
  have HM3 := Lib.hid (HM2.out.call hb3)
  have HQ3 := HQ2.call hb3
  clear hb3 HM2 HQ2
  refine ⟨_, rfl, HQ3, ?_⟩
  change wpAnyH _ _ _ _ _ _ _ (Act.put _ (some 23) _) _
  (try simp only [Act.put, List.setIfInBounds_toArray, List.set_cons_zero, List.set_cons_succ])
  refine h_take (i := 6) (d := 7) (v := .int .i64 (P : Int)) rfl rfl (by kernel_rfl) (by kernel_rfl) (by kernel_rfl) (fun _ _ _ h => h) (y_pure rfl (fun w => by go_simp)) HQ3 ?_
  (try simp only [Act.put, List.setIfInBounds_toArray, List.set_cons_zero, List.set_cons_succ])
  refine wpAnyH_done (by kernel_rfl) ?_ _
  have HM := Lib.hid HM3.out.forget
  clear HM3 HQ3
  go_upto_region 9 with (first
    | ((with_reducible apply own_box HM); exact rfl; (conv => lhs; whnf); exact rfl; exact rfl; (first | (clear tg1; intro w' g1 HM') | (clear tg2; intro w' g2 HM') | (clear tg3; intro w' g3 HM') | (clear tg4; intro w' g4 HM') | intro w' g' HM'); clear HM; have HM := HM'; clear HM'; all_goals skip) | ((with_reducible apply own_row HM); exact rfl; exact rfl; exact aggR; (first | with_reducible exact .z | with_reducible exact .s .z | with_reducible exact .s (.s .z) | with_reducible exact .s (.s (.s .z)) | with_reducible exact .s (.s (.s (.s .z))) | with_reducible exact .s (.s (.s (.s (.s .z))))); exact rfl; (first | exact Rg.cells_length _ | exact rfl); all_goals skip)
    | (go_at_call 7; (with_reducible refine (regsAlive_any _).mono ?_); rintro e w' ⟨rfl, hb⟩; have HM' := Lib.hid (HM.out.call hb); clear HM hb; have HM := HM'; clear HM')
    | (go_at_call 14; (with_reducible refine (letters_at (k : Int) px _ hL _).mono ?_); rintro e w' ⟨rfl, rfl⟩)
    | (go_at_call 13; (with_reducible refine (rnames_at _).mono ?_); rintro e w' ⟨g2, hg, rfl, hb, hW⟩; have HM' := Lib.hid (HM.out.plus hb hg hW); clear HM hb hg hW; have HM := HM'; clear HM')
    | ((with_reducible apply own_get HM); exact rfl; exact rfl; exact oneStr; exact .z; exact HK.out; exact rfl; all_goals skip)
    | (go_at_call 12; (with_reducible refine (rget_name r HR.out k HK7.out P hP _).mono ?_); rintro e w' ⟨rfl, hb⟩; have HM' := Lib.hid (HM.out.call hb); clear HM hb; have HM := HM'; clear HM')
    | (go_at_call 12; (with_reducible refine (rget_let r HR.out (k : Int) px HLE.out L hL O hO _).mono ?_); rintro e w' ⟨rfl, hb⟩; have HM' := Lib.hid (HM.out.call hb); clear HM hb; have HM := HM'; clear HM'))
  have P1 : (P : Int) < 65536 := by rw [← hP.out]; have := r.pair_lt HR.out (k : Int); omega
  (refine own_region HM (by kernel_rfl) (by kernel_rfl) ?_; (try simp only [Act.put, List.setIfInBounds_toArray, List.set_cons_zero, List.set_cons_succ]); repeat ((fail_if_success (with_reducible refine wpQuiet_nil ?_)); first | go_big_quiet_skip | (go_big_quiet_want; first | ((with_reducible apply quiet_row); exact rfl; exact aggR; (first | with_reducible exact .z | with_reducible exact .s .z | with_reducible exact .s (.s .z) | with_reducible exact .s (.s (.s .z)) | with_reducible exact .s (.s (.s (.s .z))) | with_reducible exact .s (.s (.s (.s (.s .z))))); (first | exact Rg.cells_length _ | exact rfl); go_big_quiet_op; go_big_quiet_on) | ((with_reducible apply quiet_get); exact rfl; (first | (with_reducible exact oneU8) | (with_reducible exact oneU16) | (with_reducible exact oneBool)); (first | with_reducible exact .z | with_reducible exact .s .z | with_reducible exact .s (.s .z) | with_reducible exact .s (.s (.s .z)) | with_reducible exact .s (.s (.s (.s .z))) | with_reducible exact .s (.s (.s (.s (.s .z))))); exact rfl; go_big_quiet_op; go_big_quiet_on) | ((with_reducible apply quiet_load); exact rfl; (with_reducible exact aggAlt); (first | with_reducible exact .z | with_reducible exact .s .z | with_reducible exact .s (.s .z) | with_reducible exact .s (.s (.s .z)) | with_reducible exact .s (.s (.s (.s .z))) | with_reducible exact .s (.s (.s (.s (.s .z))))); exact Rg.altDrop _; exact Rg.altTake _; go_big_quiet_op; go_big_quiet_on) | ((with_reducible apply quiet_call); exact fun w => rfl; (focus (go_simp; all_goals with_reducible rfl)); (intro wq HQ; first | (with_reducible exact pair_at r HR.out (k : Int) P hP _) | (with_reducible exact one_at r HR.out (k : Int) px O hO _) | (with_reducible exact rightRegs r b hb _) | (with_reducible exact rrightRegs r b hb _)); go_big_quiet_op; go_big_quiet_on) | (go_big_quiet_op; go_big_quiet_on) | (go_big_quiet_op; refine ⟨_, fun _ _ => rfl, ?_⟩; go_big_quiet_on))))
  refine wpQuiet_nil ?_
  intro w' HM'
  clear HM; have HM := HM'; clear HM'
  go_wp2_with fail
  go_ret
  exact ⟨rfl, Own.fin HM⟩
set_option maxRecDepth 100000 in
set_option maxHeartbeats 3200000 in
theorem get_6 (r : Rg) (hr : r.Fits) (px : Nat) (w : World) : Calls Try.prog 4 #[r.v, .int .i64 (6 : Int), .int .u8 (px : Int)] w fun e w' => e = .returned (.bool true) ∧ Below w.heap.size w w' := by
  obtain ⟨P, hP⟩ : ∃ P, Hid (r.pair (6 : Int) = P) := ⟨_, rfl⟩
  have hL : Hid (rgLet (6 : Int) px = ⟨#[]⟩) := let_none (6 : Int) px (by omega)
  have hno : ¬ (6 : Int) = 0 ∧ ¬ (6 : Int) = 1 ∧ ¬ (6 : Int) = 2 ∧ ¬ (6 : Int) = 3 ∧ ¬ (6 : Int) = 7 ∧ ¬ (6 : Int) = 4 ∧ ¬ (6 : Int) = 5 := by omega
  have HK := Lib.hid (name_at 6 (by omega))
  have HK7 : Hid (6 < 7) := by show _ < 7; omega
  have HNO := Lib.hid hno
  clear hno
  obtain ⟨b, hb⟩ : ∃ b, Hid (r.right = b) := ⟨_, rfl⟩
  have HR := Lib.hid hr
  clear hr
  have HM := Lib.hid (Own.start w)
  have tg1 : Hid True := trivial
  have tg2 : Hid True := trivial
  go_enter Try.func4, Try.ntmps4
  go_upto_region 5 with (first
    | ((with_reducible apply own_box HM); exact rfl; (conv => lhs; whnf); exact rfl; exact rfl; (first | (clear tg1; intro w' g1 HM') | (clear tg2; intro w' g2 HM') | (clear tg3; intro w' g3 HM') | (clear tg4; intro w' g4 HM') | intro w' g' HM'); clear HM; have HM := HM'; clear HM'; all_goals skip) | ((with_reducible apply own_row HM); exact rfl; exact rfl; exact aggR; (first | with_reducible exact .z | with_reducible exact .s .z | with_reducible exact .s (.s .z) | with_reducible exact .s (.s (.s .z)) | with_reducible exact .s (.s (.s (.s .z))) | with_reducible exact .s (.s (.s (.s (.s .z))))); exact rfl; (first | exact Rg.cells_length _ | exact rfl); all_goals skip)
    | (go_at_call 7; (with_reducible refine (regsAlive_any _).mono ?_); rintro e w' ⟨rfl, hb⟩; have HM' := Lib.hid (HM.out.call hb); clear HM hb; have HM := HM'; clear HM')
    | (go_at_call 14; (with_reducible refine (letters_at (6 : Int) px _ hL _).mono ?_); rintro e w' ⟨rfl, rfl⟩)
    | (go_at_call 13; (with_reducible refine (rnames_at _).mono ?_); rintro e w' ⟨g2, hg, rfl, hb, hW⟩; have HM' := Lib.hid (HM.out.plus hb hg hW); clear HM hb hg hW; have HM := HM'; clear HM')
    | ((with_reducible apply own_get HM); exact rfl; exact rfl; exact oneStr; exact .z; exact HK.out; exact rfl; all_goals skip)
    | (go_at_call 12; (with_reducible refine (rget_name r HR.out 6 HK7.out P hP _).mono ?_); rintro e w' ⟨rfl, hb⟩; have HM' := Lib.hid (HM.out.call hb); clear HM hb; have HM := HM'; clear HM'))
  refine wp_region_held (S := fun w' => Own w w' [(g1, 26, r.cells)]) (by kernel_rfl) ?_
  have HM' := Lib.hid HM.out.drew
  change wpAnyH _ _ _ _ _ _ _ _ (World.drew _)
  clear HM; have HM := HM'; clear HM'
  have HQ := HM.out
  refine h_take (i := 0) (d := 18) (v := .agg r.cells.toArray) rfl rfl (by kernel_rfl) (by kernel_rfl) (by kernel_rfl) (fun _ _ _ h => h) (y_row rfl rfl aggR .z (Rg.cells_length _) rfl) HQ ?_
  (try simp only [Act.put, List.setIfInBounds_toArray, List.set_cons_zero, List.set_cons_succ])
  refine h_take (i := 2) (d := 20) (v := .int .i64 (6 : Int)) rfl rfl (by kernel_rfl) (by kernel_rfl) (by kernel_rfl) (fun _ _ _ h => h) (y_pure rfl (fun w => by go_simp)) HQ ?_
  (try simp only [Act.put, List.setIfInBounds_toArray, List.set_cons_zero, List.set_cons_succ])
  refine wpAnyH_all (rs := [1]) (by kernel_rfl) (by simp) ?_
  intro i hi
  obtain rfl := List.mem_singleton.1 hi
  refine wpOp_of rfl rfl ?_
  refine w_call (f := 13) (args := #[]) (fun w => rfl) (by go_simp) ?_
  refine (rnames_at _).mono ?_
  rintro e w2 ⟨g2, hg, rfl, hb2, hW⟩
  have HM2 := Lib.hid (HM.out.plus hb2 hg hW)
  have HQ2 := HM.out.call hb2
  clear hb2 hg hW HM HQ
  refine ⟨_, rfl, HQ2, ?_⟩
  change wpAnyH _ _ _ _ _ _ _ (Act.put _ (some 19) _) _
  (try simp only [Act.put, List.setIfInBounds_toArray, List.set_cons_zero, List.set_cons_succ])
  refine h_take (i := 3) (d := 21) (v := .pointer (some ⟨g2, 6, none⟩)) rfl rfl (by kernel_rfl) (by kernel_rfl) (by kernel_rfl) (fun _ _ _ h => h) (y_pure rfl (fun w => by go_simp)) HQ2 ?_
  (try simp only [Act.put, List.setIfInBounds_toArray, List.set_cons_zero, List.set_cons_succ])
  refine wpAnyH_all (rs := [4]) (by kernel_rfl) (by simp) ?_
  intro i hi
  obtain rfl := List.mem_singleton.1 hi
  refine wpOp_of rfl rfl ?_
  refine w_get HM2 rfl rfl oneStr .z HK.out ?_
  refine ⟨HQ2, ?_⟩
  change wpAnyH _ _ _ _ _ _ _ (Act.put _ (some 22) _) _
  (try simp only [Act.put, List.setIfInBounds_toArray, List.set_cons_zero, List.set_cons_succ])
  refine wpAnyH_all (rs := [5]) (by kernel_rfl) (by simp) ?_
  intro i hi
  obtain rfl := List.mem_singleton.1 hi
  refine wpOp_of rfl rfl ?_
  refine w_call (f := 12) (args := #[r.v, .string (rgName 6)]) (fun w => rfl) (by go_simp) ?_
  refine (rget_name r HR.out 6 HK7.out P hP _).mono ?_
  rintro e w3 ⟨rfl, hb3⟩
  have HM3 := Lib.hid (HM2.out.call hb3)
  have HQ3 := HQ2.call hb3
  clear hb3 HM2 HQ2
  refine ⟨_, rfl, HQ3, ?_⟩
  change wpAnyH _ _ _ _ _ _ _ (Act.put _ (some 23) _) _
  (try simp only [Act.put, List.setIfInBounds_toArray, List.set_cons_zero, List.set_cons_succ])
  refine h_take (i := 6) (d := 7) (v := .int .i64 (P : Int)) rfl rfl (by kernel_rfl) (by kernel_rfl) (by kernel_rfl) (fun _ _ _ h => h) (y_pure rfl (fun w => by go_simp)) HQ3 ?_
  (try simp only [Act.put, List.setIfInBounds_toArray, List.set_cons_zero, List.set_cons_succ])
  refine wpAnyH_done (by kernel_rfl) ?_ _
  have HM := Lib.hid HM3.out.forget
  clear HM3 HQ3
  go_upto_region 9 with (first
    | ((with_reducible apply own_box HM); exact rfl; (conv => lhs; whnf); exact rfl; exact rfl; (first | (clear tg1; intro w' g1 HM') | (clear tg2; intro w' g2 HM') | (clear tg3; intro w' g3 HM') | (clear tg4; intro w' g4 HM') | intro w' g' HM'); clear HM; have HM := HM'; clear HM'; all_goals skip) | ((with_reducible apply own_row HM); exact rfl; exact rfl; exact aggR; (first | with_reducible exact .z | with_reducible exact .s .z | with_reducible exact .s (.s .z) | with_reducible exact .s (.s (.s .z)) | with_reducible exact .s (.s (.s (.s .z))) | with_reducible exact .s (.s (.s (.s (.s .z))))); exact rfl; (first | exact Rg.cells_length _ | exact rfl); all_goals skip)
    | (go_at_call 7; (with_reducible refine (regsAlive_any _).mono ?_); rintro e w' ⟨rfl, hb⟩; have HM' := Lib.hid (HM.out.call hb); clear HM hb; have HM := HM'; clear HM')
    | (go_at_call 14; (with_reducible refine (letters_at (6 : Int) px _ hL _).mono ?_); rintro e w' ⟨rfl, rfl⟩)
    | (go_at_call 13; (with_reducible refine (rnames_at _).mono ?_); rintro e w' ⟨g2, hg, rfl, hb, hW⟩; have HM' := Lib.hid (HM.out.plus hb hg hW); clear HM hb hg hW; have HM := HM'; clear HM')
    | ((with_reducible apply own_get HM); exact rfl; exact rfl; exact oneStr; exact .z; exact HK.out; exact rfl; all_goals skip)
    | (go_at_call 12; (with_reducible refine (rget_name r HR.out 6 HK7.out P hP _).mono ?_); rintro e w' ⟨rfl, hb⟩; have HM' := Lib.hid (HM.out.call hb); clear HM hb; have HM := HM'; clear HM'))
  have P1 : (P : Int) < 65536 := by rw [← hP.out]; have := r.pair_lt HR.out (6 : Int); omega
  (refine own_region HM (by kernel_rfl) (by kernel_rfl) ?_; (try simp only [Act.put, List.setIfInBounds_toArray, List.set_cons_zero, List.set_cons_succ]); repeat ((fail_if_success (with_reducible refine wpQuiet_nil ?_)); first | go_big_quiet_skip | (go_big_quiet_want; first | ((with_reducible apply quiet_row); exact rfl; exact aggR; (first | with_reducible exact .z | with_reducible exact .s .z | with_reducible exact .s (.s .z) | with_reducible exact .s (.s (.s .z)) | with_reducible exact .s (.s (.s (.s .z))) | with_reducible exact .s (.s (.s (.s (.s .z))))); (first | exact Rg.cells_length _ | exact rfl); go_big_quiet_op; go_big_quiet_on) | ((with_reducible apply quiet_get); exact rfl; (first | (with_reducible exact oneU8) | (with_reducible exact oneU16) | (with_reducible exact oneBool)); (first | with_reducible exact .z | with_reducible exact .s .z | with_reducible exact .s (.s .z) | with_reducible exact .s (.s (.s .z)) | with_reducible exact .s (.s (.s (.s .z))) | with_reducible exact .s (.s (.s (.s (.s .z))))); exact rfl; go_big_quiet_op; go_big_quiet_on) | ((with_reducible apply quiet_load); exact rfl; (with_reducible exact aggAlt); (first | with_reducible exact .z | with_reducible exact .s .z | with_reducible exact .s (.s .z) | with_reducible exact .s (.s (.s .z)) | with_reducible exact .s (.s (.s (.s .z))) | with_reducible exact .s (.s (.s (.s (.s .z))))); exact Rg.altDrop _; exact Rg.altTake _; go_big_quiet_op; go_big_quiet_on) | ((with_reducible apply quiet_call); exact fun w => rfl; (focus (go_simp; all_goals with_reducible rfl)); (intro wq HQ; first | (with_reducible exact pair_at r HR.out (6 : Int) P hP _) | (with_reducible exact one_no r HR.out (6 : Int) HNO.out px _) | (with_reducible exact rightRegs r b hb _) | (with_reducible exact rrightRegs r b hb _)); go_big_quiet_op; go_big_quiet_on) | (go_big_quiet_op; go_big_quiet_on) | (go_big_quiet_op; refine ⟨_, fun _ _ => rfl, ?_⟩; go_big_quiet_on))))
  refine wpQuiet_nil ?_
  intro w' HM'
  clear HM; have HM := HM'; clear HM'
  go_wp2_with fail
  go_ret
  exact ⟨rfl, Own.fin HM⟩
set_option maxRecDepth 100000 in
set_option maxHeartbeats 3200000 in
theorem get_7 (r : Rg) (hr : r.Fits) (px : Nat) (w : World) : Calls Try.prog 4 #[r.v, .int .i64 (7 : Int), .int .u8 (px : Int)] w fun e w' => e = .returned (.bool true) ∧ Below w.heap.size w w' := by
  have hnp : ¬ (7 : Int) = 0 ∧ ¬ (7 : Int) = 1 ∧ ¬ (7 : Int) = 2 ∧ ¬ (7 : Int) = 3 ∧ ¬ (7 : Int) = 4 ∧ ¬ (7 : Int) = 5 ∧ ¬ (7 : Int) = 6 := by omega
  have HLE := Lib.hid (show 0 ≤ (7 : Int) ∧ (7 : Int) ≤ 7 ∧ ¬ (7 : Int) = 6 by omega)
  obtain ⟨O, hO⟩ : ∃ O, Hid (r.one (7 : Int) px = O) := ⟨_, rfl⟩
  have O1 : (O : Int) < 256 := by rw [← hO.out]; have := r.one_lt hr (7 : Int) px; omega
  obtain ⟨L, hL⟩ : ∃ L, Hid (rgLet (7 : Int) px = L) := ⟨_, rfl⟩
  have hne : L.toList.isEmpty = false := by rw [← hL.out]; exact let_list (7 : Int) px HLE.out
  have HNP := Lib.hid hnp
  clear hnp
  obtain ⟨b, hb⟩ : ∃ b, Hid (r.right = b) := ⟨_, rfl⟩
  have HR := Lib.hid hr
  clear hr
  have HM := Lib.hid (Own.start w)
  have tg1 : Hid True := trivial
  have tg2 : Hid True := trivial
  go_enter Try.func4, Try.ntmps4
  go_upto_region 9 with (first
    | ((with_reducible apply own_box HM); exact rfl; (conv => lhs; whnf); exact rfl; exact rfl; (first | (clear tg1; intro w' g1 HM') | (clear tg2; intro w' g2 HM') | (clear tg3; intro w' g3 HM') | (clear tg4; intro w' g4 HM') | intro w' g' HM'); clear HM; have HM := HM'; clear HM'; all_goals skip) | ((with_reducible apply own_row HM); exact rfl; exact rfl; exact aggR; (first | with_reducible exact .z | with_reducible exact .s .z | with_reducible exact .s (.s .z) | with_reducible exact .s (.s (.s .z)) | with_reducible exact .s (.s (.s (.s .z))) | with_reducible exact .s (.s (.s (.s (.s .z))))); exact rfl; (first | exact Rg.cells_length _ | exact rfl); all_goals skip)
    | (go_at_call 7; (with_reducible refine (regsAlive_any _).mono ?_); rintro e w' ⟨rfl, hb⟩; have HM' := Lib.hid (HM.out.call hb); clear HM hb; have HM := HM'; clear HM')
    | (go_at_call 14; (with_reducible refine (letters_at (7 : Int) px _ hL _).mono ?_); rintro e w' ⟨rfl, rfl⟩)
    | (go_at_call 12; (with_reducible refine (rget_let r HR.out (7 : Int) px HLE.out L hL O hO _).mono ?_); rintro e w' ⟨rfl, hb⟩; have HM' := Lib.hid (HM.out.call hb); clear HM hb; have HM := HM'; clear HM'))
  (refine own_region HM (by kernel_rfl) (by kernel_rfl) ?_; (try simp only [Act.put, List.setIfInBounds_toArray, List.set_cons_zero, List.set_cons_succ]); repeat ((fail_if_success (with_reducible refine wpQuiet_nil ?_)); first | go_big_quiet_skip | (go_big_quiet_want; first | ((with_reducible apply quiet_row); exact rfl; exact aggR; (first | with_reducible exact .z | with_reducible exact .s .z | with_reducible exact .s (.s .z) | with_reducible exact .s (.s (.s .z)) | with_reducible exact .s (.s (.s (.s .z))) | with_reducible exact .s (.s (.s (.s (.s .z))))); (first | exact Rg.cells_length _ | exact rfl); go_big_quiet_op; go_big_quiet_on) | ((with_reducible apply quiet_get); exact rfl; (first | (with_reducible exact oneU8) | (with_reducible exact oneU16) | (with_reducible exact oneBool)); (first | with_reducible exact .z | with_reducible exact .s .z | with_reducible exact .s (.s .z) | with_reducible exact .s (.s (.s .z)) | with_reducible exact .s (.s (.s (.s .z))) | with_reducible exact .s (.s (.s (.s (.s .z))))); exact rfl; go_big_quiet_op; go_big_quiet_on) | ((with_reducible apply quiet_load); exact rfl; (with_reducible exact aggAlt); (first | with_reducible exact .z | with_reducible exact .s .z | with_reducible exact .s (.s .z) | with_reducible exact .s (.s (.s .z)) | with_reducible exact .s (.s (.s (.s .z))) | with_reducible exact .s (.s (.s (.s (.s .z))))); exact Rg.altDrop _; exact Rg.altTake _; go_big_quiet_op; go_big_quiet_on) | ((with_reducible apply quiet_call); exact fun w => rfl; (focus (go_simp; all_goals with_reducible rfl)); (intro wq HQ; first | (with_reducible exact pair_no r (7 : Int) HNP.out _) | (with_reducible exact one_at r HR.out (7 : Int) px O hO _) | (with_reducible exact rightRegs r b hb _) | (with_reducible exact rrightRegs r b hb _)); go_big_quiet_op; go_big_quiet_on) | (go_big_quiet_op; go_big_quiet_on) | (go_big_quiet_op; refine ⟨_, fun _ _ => rfl, ?_⟩; go_big_quiet_on))))
  refine wpQuiet_nil ?_
  intro w' HM'
  clear HM; have HM := HM'; clear HM'
  go_wp2_with fail
  go_ret
  exact ⟨rfl, Own.fin HM⟩
set_option maxRecDepth 100000 in
set_option maxHeartbeats 3200000 in
theorem get_neg (r : Rg) (hr : r.Fits) (n : Int) (hn : n < 0) (px : Nat) (w : World) : Calls Try.prog 4 #[r.v, .int .i64 n, .int .u8 (px : Int)] w fun e w' => e = .returned (.bool true) ∧ Below w.heap.size w w' := by
  have hnp : ¬ n = 0 ∧ ¬ n = 1 ∧ ¬ n = 2 ∧ ¬ n = 3 ∧ ¬ n = 4 ∧ ¬ n = 5 ∧ ¬ n = 6 := by omega
  have hL : Hid (rgLet n px = ⟨#[]⟩) := let_none n px (by omega)
  have hno : ¬ n = 0 ∧ ¬ n = 1 ∧ ¬ n = 2 ∧ ¬ n = 3 ∧ ¬ n = 7 ∧ ¬ n = 4 ∧ ¬ n = 5 := by omega
  have HNP := Lib.hid hnp
  clear hnp
  have HNO := Lib.hid hno
  clear hno
  obtain ⟨b, hb⟩ : ∃ b, Hid (r.right = b) := ⟨_, rfl⟩
  have HR := Lib.hid hr
  clear hr
  have HM := Lib.hid (Own.start w)
  have tg1 : Hid True := trivial
  have tg2 : Hid True := trivial
  go_enter Try.func4, Try.ntmps4
  go_upto_region 9 with (first
    | ((with_reducible apply own_box HM); exact rfl; (conv => lhs; whnf); exact rfl; exact rfl; (first | (clear tg1; intro w' g1 HM') | (clear tg2; intro w' g2 HM') | (clear tg3; intro w' g3 HM') | (clear tg4; intro w' g4 HM') | intro w' g' HM'); clear HM; have HM := HM'; clear HM'; all_goals skip) | ((with_reducible apply own_row HM); exact rfl; exact rfl; exact aggR; (first | with_reducible exact .z | with_reducible exact .s .z | with_reducible exact .s (.s .z) | with_reducible exact .s (.s (.s .z)) | with_reducible exact .s (.s (.s (.s .z))) | with_reducible exact .s (.s (.s (.s (.s .z))))); exact rfl; (first | exact Rg.cells_length _ | exact rfl); all_goals skip)
    | (go_at_call 7; (with_reducible refine (regsAlive_any _).mono ?_); rintro e w' ⟨rfl, hb⟩; have HM' := Lib.hid (HM.out.call hb); clear HM hb; have HM := HM'; clear HM')
    | (go_at_call 14; (with_reducible refine (letters_at n px _ hL _).mono ?_); rintro e w' ⟨rfl, rfl⟩))
  (refine own_region HM (by kernel_rfl) (by kernel_rfl) ?_; (try simp only [Act.put, List.setIfInBounds_toArray, List.set_cons_zero, List.set_cons_succ]); repeat ((fail_if_success (with_reducible refine wpQuiet_nil ?_)); first | go_big_quiet_skip | (go_big_quiet_want; first | ((with_reducible apply quiet_row); exact rfl; exact aggR; (first | with_reducible exact .z | with_reducible exact .s .z | with_reducible exact .s (.s .z) | with_reducible exact .s (.s (.s .z)) | with_reducible exact .s (.s (.s (.s .z))) | with_reducible exact .s (.s (.s (.s (.s .z))))); (first | exact Rg.cells_length _ | exact rfl); go_big_quiet_op; go_big_quiet_on) | ((with_reducible apply quiet_get); exact rfl; (first | (with_reducible exact oneU8) | (with_reducible exact oneU16) | (with_reducible exact oneBool)); (first | with_reducible exact .z | with_reducible exact .s .z | with_reducible exact .s (.s .z) | with_reducible exact .s (.s (.s .z)) | with_reducible exact .s (.s (.s (.s .z))) | with_reducible exact .s (.s (.s (.s (.s .z))))); exact rfl; go_big_quiet_op; go_big_quiet_on) | ((with_reducible apply quiet_load); exact rfl; (with_reducible exact aggAlt); (first | with_reducible exact .z | with_reducible exact .s .z | with_reducible exact .s (.s .z) | with_reducible exact .s (.s (.s .z)) | with_reducible exact .s (.s (.s (.s .z))) | with_reducible exact .s (.s (.s (.s (.s .z))))); exact Rg.altDrop _; exact Rg.altTake _; go_big_quiet_op; go_big_quiet_on) | ((with_reducible apply quiet_call); exact fun w => rfl; (focus (go_simp; all_goals with_reducible rfl)); (intro wq HQ; first | (with_reducible exact pair_no r n HNP.out _) | (with_reducible exact one_no r HR.out n HNO.out px _) | (with_reducible exact rightRegs r b hb _) | (with_reducible exact rrightRegs r b hb _)); go_big_quiet_op; go_big_quiet_on) | (go_big_quiet_op; go_big_quiet_on) | (go_big_quiet_op; refine ⟨_, fun _ _ => rfl, ?_⟩; go_big_quiet_on))))
  refine wpQuiet_nil ?_
  intro w' HM'
  clear HM; have HM := HM'; clear HM'
  go_wp2_with fail
  go_ret
  exact ⟨rfl, Own.fin HM⟩
set_option maxRecDepth 100000 in
set_option maxHeartbeats 3200000 in
theorem get_big (r : Rg) (hr : r.Fits) (n : Int) (hn : 7 < n) (px : Nat) (w : World) : Calls Try.prog 4 #[r.v, .int .i64 n, .int .u8 (px : Int)] w fun e w' => e = .returned (.bool true) ∧ Below w.heap.size w w' := by
  have hnp : ¬ n = 0 ∧ ¬ n = 1 ∧ ¬ n = 2 ∧ ¬ n = 3 ∧ ¬ n = 4 ∧ ¬ n = 5 ∧ ¬ n = 6 := by omega
  have hL : Hid (rgLet n px = ⟨#[]⟩) := let_none n px (by omega)
  have hno : ¬ n = 0 ∧ ¬ n = 1 ∧ ¬ n = 2 ∧ ¬ n = 3 ∧ ¬ n = 7 ∧ ¬ n = 4 ∧ ¬ n = 5 := by omega
  have HNP := Lib.hid hnp
  clear hnp
  have HNO := Lib.hid hno
  clear hno
  obtain ⟨b, hb⟩ : ∃ b, Hid (r.right = b) := ⟨_, rfl⟩
  have HR := Lib.hid hr
  clear hr
  have HM := Lib.hid (Own.start w)
  have tg1 : Hid True := trivial
  have tg2 : Hid True := trivial
  go_enter Try.func4, Try.ntmps4
  go_upto_region 9 with (first
    | ((with_reducible apply own_box HM); exact rfl; (conv => lhs; whnf); exact rfl; exact rfl; (first | (clear tg1; intro w' g1 HM') | (clear tg2; intro w' g2 HM') | (clear tg3; intro w' g3 HM') | (clear tg4; intro w' g4 HM') | intro w' g' HM'); clear HM; have HM := HM'; clear HM'; all_goals skip) | ((with_reducible apply own_row HM); exact rfl; exact rfl; exact aggR; (first | with_reducible exact .z | with_reducible exact .s .z | with_reducible exact .s (.s .z) | with_reducible exact .s (.s (.s .z)) | with_reducible exact .s (.s (.s (.s .z))) | with_reducible exact .s (.s (.s (.s (.s .z))))); exact rfl; (first | exact Rg.cells_length _ | exact rfl); all_goals skip)
    | (go_at_call 7; (with_reducible refine (regsAlive_any _).mono ?_); rintro e w' ⟨rfl, hb⟩; have HM' := Lib.hid (HM.out.call hb); clear HM hb; have HM := HM'; clear HM')
    | (go_at_call 14; (with_reducible refine (letters_at n px _ hL _).mono ?_); rintro e w' ⟨rfl, rfl⟩))
  (refine own_region HM (by kernel_rfl) (by kernel_rfl) ?_; (try simp only [Act.put, List.setIfInBounds_toArray, List.set_cons_zero, List.set_cons_succ]); repeat ((fail_if_success (with_reducible refine wpQuiet_nil ?_)); first | go_big_quiet_skip | (go_big_quiet_want; first | ((with_reducible apply quiet_row); exact rfl; exact aggR; (first | with_reducible exact .z | with_reducible exact .s .z | with_reducible exact .s (.s .z) | with_reducible exact .s (.s (.s .z)) | with_reducible exact .s (.s (.s (.s .z))) | with_reducible exact .s (.s (.s (.s (.s .z))))); (first | exact Rg.cells_length _ | exact rfl); go_big_quiet_op; go_big_quiet_on) | ((with_reducible apply quiet_get); exact rfl; (first | (with_reducible exact oneU8) | (with_reducible exact oneU16) | (with_reducible exact oneBool)); (first | with_reducible exact .z | with_reducible exact .s .z | with_reducible exact .s (.s .z) | with_reducible exact .s (.s (.s .z)) | with_reducible exact .s (.s (.s (.s .z))) | with_reducible exact .s (.s (.s (.s (.s .z))))); exact rfl; go_big_quiet_op; go_big_quiet_on) | ((with_reducible apply quiet_load); exact rfl; (with_reducible exact aggAlt); (first | with_reducible exact .z | with_reducible exact .s .z | with_reducible exact .s (.s .z) | with_reducible exact .s (.s (.s .z)) | with_reducible exact .s (.s (.s (.s .z))) | with_reducible exact .s (.s (.s (.s (.s .z))))); exact Rg.altDrop _; exact Rg.altTake _; go_big_quiet_op; go_big_quiet_on) | ((with_reducible apply quiet_call); exact fun w => rfl; (focus (go_simp; all_goals with_reducible rfl)); (intro wq HQ; first | (with_reducible exact pair_no r n HNP.out _) | (with_reducible exact one_no r HR.out n HNO.out px _) | (with_reducible exact rightRegs r b hb _) | (with_reducible exact rrightRegs r b hb _)); go_big_quiet_op; go_big_quiet_on) | (go_big_quiet_op; go_big_quiet_on) | (go_big_quiet_op; refine ⟨_, fun _ _ => rfl, ?_⟩; go_big_quiet_on))))
  refine wpQuiet_nil ?_
  intro w' HM'
  clear HM; have HM := HM'; clear HM'
  go_wp2_with fail
  go_ret
  exact ⟨rfl, Own.fin HM⟩
theorem get_any (r : Rg) (hr : r.Fits) (n : Int) (px : Nat) (w : World) : Calls Try.prog 4 #[r.v, .int .i64 n, .int .u8 (px : Int)] w fun e w' => e = .returned (.bool true) ∧ Below w.heap.size w w' := by
  by_cases h1 : n < 0
  · exact get_neg r hr n h1 px w
  · by_cases h2 : 7 < n
    · exact get_big r hr n h2 px w
    · by_cases h3 : n < 6
      · obtain ⟨k, rfl⟩ := Int.eq_ofNat_of_zero_le (show 0 ≤ n by omega)
        exact get_k r hr k h3 px w
      · rcases (show n = 6 ∨ n = 7 by omega) with rfl | rfl
        · exact get_6 r hr px w
        · exact get_7 r hr px w

end Go.Proofs.Ythehpkhhoimecaa
