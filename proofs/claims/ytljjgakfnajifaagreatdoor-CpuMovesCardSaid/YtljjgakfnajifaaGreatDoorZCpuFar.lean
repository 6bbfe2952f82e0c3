import Derived.Test.YtljjgakfnajifaaGreatDoorZCpuP
import Derived.Deep.Cut
import Derived.Deep.RegionHeld3
import Derived.Deep.CutRange
namespace Go.Proofs.YtljjgakfnajifaaGreatDoor
open Go.RowKit
set_option maxRecDepth 100000 in
set_option maxHeartbeats 400000 in
theorem moveFar_0 {W0 w : World} {c b n : Nat} {s : Cs} {l : Blocks} (y q : Nat) (h : Hid (Co W0 w c b s l (n + 4))) :
    Calls Tryz.prog 155 #[.pointer (some ⟨c, 0, none⟩), .agg #[.int .i64 0, .int .i64 (y : Int), .int .i64 2, .int .i64 0, .int .i64 (q : Int)]] w fun e w' => e = .returned (.int .i64 7) ∧ Hid (Co W0 w' c b (s.moveA q (s.pair 0)) l n) := by
  obtain ⟨hf, hg, X, hX, hO⟩ := h.out.out
  have HF := Lib.hid hf
  have HF0 := Lib.hid hf
  have HG := Lib.hid hg
  have HX := Lib.hid hX
  have HM := Lib.hid hO
  have p1 : s.pair 0 < 65536 := Cs.pair_lt hf _
  clear h hf hg hX hO
  have tg1 : Hid True := trivial
  go_enter Tryz.func155, Tryz.ntmps155
  go_upto_region 4 with (first
    | ((with_reducible apply own_cell1 HM); exact rfl; exact rfl; exact dS; exact rfl)
    | ((with_reducible apply cgY HM); exact cgS) | ((with_reducible apply cpY HM); exact cpS; clear HM; intro w' HM) | ((with_reducible apply crY HM); exact crS) | ((with_reducible apply clY HM); exact clS; clear HM; intro w' HM)
    | ((with_reducible apply own_box1 HM); exact rfl; (conv => lhs; whnf); exact rfl; exact rfl; clear tg1 HM; intro w' g1 HM)
    | ((with_reducible apply own_load1 HM); exact rfl; exact rfl; exact tS; exact rfl))
  (refine own_tail 7 HM (by kernel_rfl) (by kernel_rfl) (by kernel_rfl) ?_; simp only [List.take_succ_cons, List.take_zero, List.drop_succ_cons, List.drop_zero]; (try simp only [Act.put, List.setIfInBounds_toArray, List.set_cons_zero, List.set_cons_succ]); repeat ((fail_if_success (with_reducible refine wpQuiet_nil ?_)); first | go_big_quiet_skip | (go_big_quiet_want; first | ((with_reducible apply quiet_get); exact rfl; exact wS; exact sS; exact rfl; go_big_quiet_op; go_big_quiet_on) | ((with_reducible apply quiet_load); exact rfl; (with_reducible exact aggR); exact sS; exact Cs.drop0 _ _; exact Cs.take29 _ _; go_big_quiet_op; go_big_quiet_on) | ((with_reducible apply quiet_load); exact rfl; (first | (with_reducible exact aggParts)); exact sS; exact dS; exact tS; go_big_quiet_op; go_big_quiet_on) | ((with_reducible apply quiet_cell); exact rfl; (first | (with_reducible exact oneInt)); exact sS; exact dS; go_big_quiet_op; go_big_quiet_on) | ((with_reducible apply quiet_call); exact fun w => rfl; (focus (go_simp; all_goals with_reducible rfl)); (intro wq HQ; first | (with_reducible exact cpair_q .z HQ HF.out _)); go_big_quiet_op; go_big_quiet_on) | (go_big_quiet_op; go_big_quiet_on) | (go_big_quiet_op; refine ⟨_, fun _ _ => rfl, ?_⟩; go_big_quiet_on))))
  refine wpQuiet_nil ?_
  intro w' HM'
  clear HM; have HM := HM'; clear HM'
  go_wp2_with (first
    | ((with_reducible apply own_cell1 HM); exact rfl; exact rfl; exact dS; exact rfl)
    | ((with_reducible apply cgY HM); exact cgS) | ((with_reducible apply cpY HM); exact cpS; clear HM; intro w' HM) | ((with_reducible apply crY HM); exact crS) | ((with_reducible apply clY HM); exact clS; clear HM; intro w' HM)
    | ((with_reducible apply own_box1 HM); exact rfl; (conv => lhs; whnf); exact rfl; exact rfl; clear tg1 HM; intro w' g1 HM)
    | ((with_reducible apply own_load1 HM); exact rfl; exact rfl; exact tS; exact rfl)
    | (go_at_call 213; have hco := Lib.hid (Co.ok (l := _ :: l) HM.out HG.out HX.out); (with_reducible refine (moveA_at (n := n + 3) q _ p1 hco).mono ?_); clear hco; rintro e w' ⟨rfl, hc⟩; clear HM HF HG HX; obtain ⟨X, HF, HG, HX, HM⟩ := hc.out.hid1; clear hc))
  go_ret
  have hco := Co.ok (l := _ :: l) HM.out HG.out HX.out
  exact ⟨rfl, Lib.hid (hco.drop.less (by omega))⟩
set_option maxRecDepth 100000 in
set_option maxHeartbeats 400000 in
theorem moveFar_1 {W0 w : World} {c b n : Nat} {s : Cs} {l : Blocks} (y q : Nat) (h : Hid (Co W0 w c b s l (n + 4))) :
    Calls Tryz.prog 155 #[.pointer (some ⟨c, 0, none⟩), .agg #[.int .i64 0, .int .i64 (y : Int), .int .i64 2, .int .i64 1, .int .i64 (q : Int)]] w fun e w' => e = .returned (.int .i64 7) ∧ Hid (Co W0 w' c b (s.moveA q (s.pair 1)) l n) := by
  obtain ⟨hf, hg, X, hX, hO⟩ := h.out.out
  have HF := Lib.hid hf
  have HF0 := Lib.hid hf
  have HG := Lib.hid hg
  have HX := Lib.hid hX
  have HM := Lib.hid hO
  have p1 : s.pair 1 < 65536 := Cs.pair_lt hf _
  clear h hf hg hX hO
  have tg1 : Hid True := trivial
  go_enter Tryz.func155, Tryz.ntmps155
  go_upto_region 4 with (first
    | ((with_reducible apply own_cell1 HM); exact rfl; exact rfl; exact dS; exact rfl)
    | ((with_reducible apply cgY HM); exact cgS) | ((with_reducible apply cpY HM); exact cpS; clear HM; intro w' HM) | ((with_reducible apply crY HM); exact crS) | ((with_reducible apply clY HM); exact clS; clear HM; intro w' HM)
    | ((with_reducible apply own_box1 HM); exact rfl; (conv => lhs; whnf); exact rfl; exact rfl; clear tg1 HM; intro w' g1 HM)
    | ((with_reducible apply own_load1 HM); exact rfl; exact rfl; exact tS; exact rfl))
  (refine own_tail 7 HM (by kernel_rfl) (by kernel_rfl) (by kernel_rfl) ?_; simp only [List.take_succ_cons, List.take_zero, List.drop_succ_cons, List.drop_zero]; (try simp only [Act.put, List.setIfInBounds_toArray, List.set_cons_zero, List.set_cons_succ]); repeat ((fail_if_success (with_reducible refine wpQuiet_nil ?_)); first | go_big_quiet_skip | (go_big_quiet_want; first | ((with_reducible apply quiet_get); exact rfl; exact wS; exact sS; exact rfl; go_big_quiet_op; go_big_quiet_on) | ((with_reducible apply quiet_load); exact rfl; (with_reducible exact aggR); exact sS; exact Cs.drop0 _ _; exact Cs.take29 _ _; go_big_quiet_op; go_big_quiet_on) | ((with_reducible apply quiet_load); exact rfl; (first | (with_reducible exact aggParts)); exact sS; exact dS; exact tS; go_big_quiet_op; go_big_quiet_on) | ((with_reducible apply quiet_cell); exact rfl; (first | (with_reducible exact oneInt)); exact sS; exact dS; go_big_quiet_op; go_big_quiet_on) | ((with_reducible apply quiet_call); exact fun w => rfl; (focus (go_simp; all_goals with_reducible rfl)); (intro wq HQ; first | (with_reducible exact cpair_q .z HQ HF.out _)); go_big_quiet_op; go_big_quiet_on) | (go_big_quiet_op; go_big_quiet_on) | (go_big_quiet_op; refine ⟨_, fun _ _ => rfl, ?_⟩; go_big_quiet_on))))
  refine wpQuiet_nil ?_
  intro w' HM'
  clear HM; have HM := HM'; clear HM'
  go_wp2_with (first
    | ((with_reducible apply own_cell1 HM); exact rfl; exact rfl; exact dS; exact rfl)
    | ((with_reducible apply cgY HM); exact cgS) | ((with_reducible apply cpY HM); exact cpS; clear HM; intro w' HM) | ((with_reducible apply crY HM); exact crS) | ((with_reducible apply clY HM); exact clS; clear HM; intro w' HM)
    | ((with_reducible apply own_box1 HM); exact rfl; (conv => lhs; whnf); exact rfl; exact rfl; clear tg1 HM; intro w' g1 HM)
    | ((with_reducible apply own_load1 HM); exact rfl; exact rfl; exact tS; exact rfl)
    | (go_at_call 213; have hco := Lib.hid (Co.ok (l := _ :: l) HM.out HG.out HX.out); (with_reducible refine (moveA_at (n := n + 3) q _ p1 hco).mono ?_); clear hco; rintro e w' ⟨rfl, hc⟩; clear HM HF HG HX; obtain ⟨X, HF, HG, HX, HM⟩ := hc.out.hid1; clear hc))
  go_ret
  have hco := Co.ok (l := _ :: l) HM.out HG.out HX.out
  exact ⟨rfl, Lib.hid (hco.drop.less (by omega))⟩
set_option maxRecDepth 100000 in
set_option maxHeartbeats 400000 in
theorem moveFar_2 {W0 w : World} {c b n : Nat} {s : Cs} {l : Blocks} (y q : Nat) (h : Hid (Co W0 w c b s l (n + 4))) :
    Calls Tryz.prog 155 #[.pointer (some ⟨c, 0, none⟩), .agg #[.int .i64 0, .int .i64 (y : Int), .int .i64 2, .int .i64 2, .int .i64 (q : Int)]] w fun e w' => e = .returned (.int .i64 16) ∧ Hid (Co W0 w' c b (s.movePair q 2) l n) := by
  obtain ⟨hf, hg, X, hX, hO⟩ := h.out.out
  have HF := Lib.hid hf
  have HF0 := Lib.hid hf
  have HG := Lib.hid hg
  have HX := Lib.hid hX
  have HM := Lib.hid hO
  clear h hf hg hX hO
  have tg1 : Hid True := trivial
  go_enter Tryz.func155, Tryz.ntmps155
  go_wp2_with (first
    | ((with_reducible apply own_cell1 HM); exact rfl; exact rfl; exact dS; exact rfl)
    | ((with_reducible apply cgY HM); exact cgS) | ((with_reducible apply cpY HM); exact cpS; clear HM; intro w' HM) | ((with_reducible apply crY HM); exact crS) | ((with_reducible apply clY HM); exact clS; clear HM; intro w' HM)
    | ((with_reducible apply own_box1 HM); exact rfl; (conv => lhs; whnf); exact rfl; exact rfl; clear tg1 HM; intro w' g1 HM)
    | ((with_reducible apply own_load1 HM); exact rfl; exact rfl; exact tS; exact rfl)
    | (go_at_call 135; have hco := Lib.hid (Co.ok (l := _ :: l) HM.out HG.out HX.out); (with_reducible refine (movePair_at q 2 hco).mono ?_); clear hco; rintro e w' ⟨rfl, hc⟩; clear HM HF HG HX; obtain ⟨X, HF, HG, HX, HM⟩ := hc.out.hid1; clear hc))
  go_ret
  have hco := Co.ok (l := _ :: l) HM.out HG.out HX.out
  exact ⟨rfl, Lib.hid (hco.drop.less (by omega))⟩
set_option maxRecDepth 100000 in
set_option maxHeartbeats 400000 in
theorem moveFar_3 {W0 w : World} {c b n : Nat} {s : Cs} {l : Blocks} (y q : Nat) (h : Hid (Co W0 w c b s l (n + 4))) :
    Calls Tryz.prog 155 #[.pointer (some ⟨c, 0, none⟩), .agg #[.int .i64 0, .int .i64 (y : Int), .int .i64 2, .int .i64 3, .int .i64 (q : Int)]] w fun e w' => e = .returned (.int .i64 13) ∧ Hid (Co W0 w' c b (s.nextNum.moveA q s.nextNumV) l n) := by
  obtain ⟨hf, hg, X, hX, hO⟩ := h.out.out
  have HF := Lib.hid hf
  have HF0 := Lib.hid hf
  have HG := Lib.hid hg
  have HX := Lib.hid hX
  have HM := Lib.hid hO
  have N1 : s.nextNumV < 65536 := Cs.numV_lt hf _
  clear h hf hg hX hO
  have tg1 : Hid True := trivial
  go_enter Tryz.func155, Tryz.ntmps155
  go_upto_region 9 with (first
    | ((with_reducible apply own_cell1 HM); exact rfl; exact rfl; exact dS; exact rfl)
    | ((with_reducible apply cgY HM); exact cgS) | ((with_reducible apply cpY HM); exact cpS; clear HM; intro w' HM) | ((with_reducible apply crY HM); exact crS) | ((with_reducible apply clY HM); exact clS; clear HM; intro w' HM)
    | ((with_reducible apply own_box1 HM); exact rfl; (conv => lhs; whnf); exact rfl; exact rfl; clear tg1 HM; intro w' g1 HM)
    | ((with_reducible apply own_load1 HM); exact rfl; exact rfl; exact tS; exact rfl))
  have HM' := Lib.hid HM.out.drew
  clear HM; have HM := HM'; clear HM'
  have d1 := HM.out.cells_at (.s .z) 4 _ rfl
  go_region_held3 (fun w' => w'.cell? ⟨g1, 4, none⟩ = some (.int .i64 (q : Int))) (first | assumption | (simp only [*]; trivial) | simp [*]) (first
    | (go_at_call 153; have hco := Lib.hid (Co.ok (l := _ :: l) HM.out HG.out HX.out); (with_reducible refine (nextNumber_at (n := n + 2) hco).mono ?_); clear hco; rintro e w' ⟨rfl, hc⟩; clear HM HF HG HX; obtain ⟨X, HF, HG, HX, HM⟩ := hc.out.hid1; clear hc; have d1 := HM.out.cells_at (.s .z) 4 _ rfl)
    | (go_at_call 213; have hco := Lib.hid (Co.ok (l := _ :: l) HM.out HG.out HX.out); (with_reducible refine (moveA_at (n := n + 1) q _ N1 hco).mono ?_); clear hco; rintro e w' ⟨rfl, hc⟩; clear HM HF HG HX; obtain ⟨X, HF, HG, HX, HM⟩ := hc.out.hid1; clear hc; have d1 := HM.out.cells_at (.s .z) 4 _ rfl))
  all_goals go_wp2_with (first | ((with_reducible apply own_cell1 HM); exact rfl; exact rfl; exact dS; exact rfl) | ((with_reducible apply cgY HM); exact cgS) | ((with_reducible apply cpY HM); exact cpS; clear HM; intro w' HM) | ((with_reducible apply crY HM); exact crS) | ((with_reducible apply clY HM); exact clS; clear HM; intro w' HM) | ((with_reducible apply own_box1 HM); exact rfl; (conv => lhs; whnf); exact rfl; exact rfl; clear tg1 HM; intro w' g1 HM) | ((with_reducible apply own_load1 HM); exact rfl; exact rfl; exact tS; exact rfl))
  all_goals go_ret
  all_goals have hco := Co.ok (l := _ :: l) HM.out HG.out HX.out
  all_goals exact ⟨rfl, Lib.hid (hco.drop.less (by omega))⟩
end Go.Proofs.YtljjgakfnajifaaGreatDoor
