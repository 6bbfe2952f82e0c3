import Derived.Test.YtljjgakfnajifaaGreatDoorZCpuNo
import Derived.Test.YtljjgakfnajifaaGreatDoorZCpuMx
import Derived.Test.YtljjgakfnajifaaGreatDoorZCpuB1
import Derived.Test.YtljjgakfnajifaaGreatDoorZCpuJ
import Derived.Deep.Cut
import Derived.Deep.RegionHeld3
import Derived.Deep.CutRange
namespace Go.Proofs.YtljjgakfnajifaaGreatDoor
open Go.RowKit
theorem stacked_at (p : Nat) (w : World) : Calls Tryz.prog 167 #[.int .i64 (p : Int)] w fun e w' => e = .returned (.int .i64 (Cs.stacked p)) ∧ w = w' := by
  unfold Cs.stacked
  by_cases hp : p = 3
  · rw [if_pos hp]
    have p1 : ((p : Int) == 3) = true := by rw [hp]; rfl
    clear hp
    go_enter Tryz.func167, Tryz.ntmps167
    go_wp2_with fail
    go_ret
    exact ⟨rfl, rfl⟩
  · rw [if_neg hp]
    have p1 : ((p : Int) == 3) = false := by simp; omega
    clear hp
    go_enter Tryz.func167, Tryz.ntmps167
    go_wp2_with fail
    go_ret
    exact ⟨rfl, rfl⟩
set_option maxRecDepth 100000 in
set_option maxHeartbeats 800000 in
theorem plainLast_0 {W0 w : World} {c b n : Nat} {s : Cs} {l : Blocks} (x y z p q : Nat) (hz : z = 0) (hT : Hid (Tabs W0)) (hy : y < 8) (h : Hid (Co W0 w c b s l (n + 4))) :
    Calls Tryz.prog 92 #[.pointer (some ⟨c, 0, none⟩), .agg #[.int .i64 (x : Int), .int .i64 (y : Int), .int .i64 (z : Int), .int .i64 (p : Int), .int .i64 (q : Int)]] w fun e w' => e = .returned (.int .i64 ((cond (rgMet s.r.f y) 11 5 : Nat) : Int)) ∧ Hid (Co W0 w' c b (s.backIf (rgMet s.r.f y)) l n) := by
  obtain ⟨hf, hg, X, hX, hO⟩ := h.out.out
  have HF := Lib.hid hf
  have HF0 := Lib.hid hf
  have HG := Lib.hid hg
  have HX := Lib.hid hX
  have HM := Lib.hid hO
  have z0 : ((z : Int) == 0) = true := by rw [hz]; rfl
  have z1 : ((z : Int) == 1) = false := by rw [hz]; rfl
  have z2 : ((z : Int) == 2) = false := by rw [hz]; rfl
  have z3 : ((z : Int) == 3) = false := by rw [hz]; rfl
  have z4 : ((z : Int) == 4) = false := by rw [hz]; rfl
  have z5 : ((z : Int) == 5) = false := by rw [hz]; rfl
  have z6 : ((z : Int) == 6) = false := by rw [hz]; rfl
  have z7 : ((z : Int) == 7) = false := by rw [hz]; rfl
  have f1 : s.r.f < 256 := hf.r.f
  have y8 : (y : Int) % 8 = ((y : Nat) : Int) := by omega
  clear h hf hg hX hO
  have tg1 : Hid True := trivial
  go_enter Tryz.func92, Tryz.ntmps92
  go_upto_region 3 with (first
    | ((with_reducible apply own_cell1 HM); exact rfl; exact rfl; exact dS; exact rfl)
    | ((with_reducible apply cgY HM); exact cgS) | ((with_reducible apply cpY HM); exact cpS; clear HM; intro w' HM) | ((with_reducible apply crY HM); exact crS) | ((with_reducible apply clY HM); exact clS; clear HM; intro w' HM)
    | ((with_reducible apply own_box1 HM); exact rfl; (conv => lhs; whnf); exact rfl; exact rfl; clear tg1 HM; intro w' g1 HM)
    | ((with_reducible apply own_load1 HM); exact rfl; exact rfl; exact tS; exact rfl))
  (refine own_tail 9 HM (by kernel_rfl) (by kernel_rfl) (by kernel_rfl) ?_; simp only [List.take_succ_cons, List.take_zero, List.drop_succ_cons, List.drop_zero]; (try simp only [Act.put, List.setIfInBounds_toArray, List.set_cons_zero, List.set_cons_succ]); repeat ((fail_if_success (with_reducible refine wpQuiet_nil ?_)); first | go_big_quiet_skip | (go_big_quiet_want; first | ((with_reducible apply quiet_get); exact rfl; exact wS; exact sS; exact rfl; go_big_quiet_op; go_big_quiet_on) | ((with_reducible apply quiet_load); exact rfl; (with_reducible exact aggR); exact sS; exact Cs.drop0 _ _; exact Cs.take29 _ _; go_big_quiet_op; go_big_quiet_on) | ((with_reducible apply quiet_load); exact rfl; (first | (with_reducible exact aggParts)); exact sS; exact dS; exact tS; go_big_quiet_op; go_big_quiet_on) | ((with_reducible apply quiet_cell); exact rfl; (first | (with_reducible exact oneInt)); exact sS; exact dS; go_big_quiet_op; go_big_quiet_on) | ((with_reducible apply quiet_call); exact fun w => rfl; (focus (go_simp; all_goals with_reducible rfl)); (intro wq HQ; first | (with_reducible exact (met_at s.r.f y _ f1 y8 _ (Lib.hid rfl) _ (Tabs.own hT HQ).ask).mono fun _ _ ⟨he, hw⟩ => ⟨he, hw ▸ Below.refl _ _⟩)); go_big_quiet_op; go_big_quiet_on) | (go_big_quiet_op; go_big_quiet_on) | (go_big_quiet_op; refine ⟨_, fun _ _ => rfl, ?_⟩; go_big_quiet_on))))
  refine wpQuiet_nil ?_
  intro w' HM'
  clear HM; have HM := HM'; clear HM'
  go_wp2_with (first
    | ((with_reducible apply own_cell1 HM); exact rfl; exact rfl; exact dS; exact rfl)
    | ((with_reducible apply cgY HM); exact cgS) | ((with_reducible apply cpY HM); exact cpS; clear HM; intro w' HM) | ((with_reducible apply crY HM); exact crS) | ((with_reducible apply clY HM); exact clS; clear HM; intro w' HM)
    | ((with_reducible apply own_box1 HM); exact rfl; (conv => lhs; whnf); exact rfl; exact rfl; clear tg1 HM; intro w' g1 HM)
    | ((with_reducible apply own_load1 HM); exact rfl; exact rfl; exact tS; exact rfl)
    | (go_at_call 165; have hco := Lib.hid (Co.ok (l := _ :: l) HM.out HG.out HX.out); (with_reducible refine (comeBackIf_at _ hco).mono ?_); clear hco; rintro e w' ⟨rfl, hc⟩; clear HM HF HG HX; obtain ⟨X, HF, HG, HX, HM⟩ := hc.out.hid1; clear hc))
  go_ret
  have hco := Co.ok (l := _ :: l) HM.out HG.out HX.out
  exact ⟨rfl, Lib.hid (hco.drop.less (by omega))⟩
set_option maxRecDepth 100000 in
set_option maxHeartbeats 800000 in
theorem plainLast_2 {W0 w : World} {c b n : Nat} {s : Cs} {l : Blocks} (x y z p q : Nat) (hz : z = 2) (hT : Hid (Tabs W0)) (hy : y < 8) (h : Hid (Co W0 w c b s l (n + 4))) :
    Calls Tryz.prog 92 #[.pointer (some ⟨c, 0, none⟩), .agg #[.int .i64 (x : Int), .int .i64 (y : Int), .int .i64 (z : Int), .int .i64 (p : Int), .int .i64 (q : Int)]] w fun e w' => e = .returned (.int .i64 ((10 : Nat) : Int)) ∧ Hid (Co W0 w' c b (s.jumpTo (rgMet s.r.f y)) l n) := by
  obtain ⟨hf, hg, X, hX, hO⟩ := h.out.out
  have HF := Lib.hid hf
  have HF0 := Lib.hid hf
  have HG := Lib.hid hg
  have HX := Lib.hid hX
  have HM := Lib.hid hO
  have z0 : ((z : Int) == 0) = false := by rw [hz]; rfl
  have z1 : ((z : Int) == 1) = false := by rw [hz]; rfl
  have z2 : ((z : Int) == 2) = true := by rw [hz]; rfl
  have z3 : ((z : Int) == 3) = false := by rw [hz]; rfl
  have z4 : ((z : Int) == 4) = false := by rw [hz]; rfl
  have z5 : ((z : Int) == 5) = false := by rw [hz]; rfl
  have z6 : ((z : Int) == 6) = false := by rw [hz]; rfl
  have z7 : ((z : Int) == 7) = false := by rw [hz]; rfl
  have f1 : s.r.f < 256 := hf.r.f
  have y8 : (y : Int) % 8 = ((y : Nat) : Int) := by omega
  clear h hf hg hX hO
  have tg1 : Hid True := trivial
  go_enter Tryz.func92, Tryz.ntmps92
  go_upto_region 10 with (first
    | ((with_reducible apply own_cell1 HM); exact rfl; exact rfl; exact dS; exact rfl)
    | ((with_reducible apply cgY HM); exact cgS) | ((with_reducible apply cpY HM); exact cpS; clear HM; intro w' HM) | ((with_reducible apply crY HM); exact crS) | ((with_reducible apply clY HM); exact clS; clear HM; intro w' HM)
    | ((with_reducible apply own_box1 HM); exact rfl; (conv => lhs; whnf); exact rfl; exact rfl; clear tg1 HM; intro w' g1 HM)
    | ((with_reducible apply own_load1 HM); exact rfl; exact rfl; exact tS; exact rfl))
  (refine own_tail 9 HM (by kernel_rfl) (by kernel_rfl) (by kernel_rfl) ?_; simp only [List.take_succ_cons, List.take_zero, List.drop_succ_cons, List.drop_zero]; (try simp only [Act.put, List.setIfInBounds_toArray, List.set_cons_zero, List.set_cons_succ]); repeat ((fail_if_success (with_reducible refine wpQuiet_nil ?_)); first | go_big_quiet_skip | (go_big_quiet_want; first | ((with_reducible apply quiet_get); exact rfl; exact wS; exact sS; exact rfl; go_big_quiet_op; go_big_quiet_on) | ((with_reducible apply quiet_load); exact rfl; (with_reducible exact aggR); exact sS; exact Cs.drop0 _ _; exact Cs.take29 _ _; go_big_quiet_op; go_big_quiet_on) | ((with_reducible apply quiet_load); exact rfl; (first | (with_reducible exact aggParts)); exact sS; exact dS; exact tS; go_big_quiet_op; go_big_quiet_on) | ((with_reducible apply quiet_cell); exact rfl; (first | (with_reducible exact oneInt)); exact sS; exact dS; go_big_quiet_op; go_big_quiet_on) | ((with_reducible apply quiet_call); exact fun w => rfl; (focus (go_simp; all_goals with_reducible rfl)); (intro wq HQ; first | (with_reducible exact (met_at s.r.f y _ f1 y8 _ (Lib.hid rfl) _ (Tabs.own hT HQ).ask).mono fun _ _ ⟨he, hw⟩ => ⟨he, hw ▸ Below.refl _ _⟩)); go_big_quiet_op; go_big_quiet_on) | (go_big_quiet_op; go_big_quiet_on) | (go_big_quiet_op; refine ⟨_, fun _ _ => rfl, ?_⟩; go_big_quiet_on))))
  refine wpQuiet_nil ?_
  intro w' HM'
  clear HM; have HM := HM'; clear HM'
  go_wp2_with (first
    | ((with_reducible apply own_cell1 HM); exact rfl; exact rfl; exact dS; exact rfl)
    | ((with_reducible apply cgY HM); exact cgS) | ((with_reducible apply cpY HM); exact cpS; clear HM; intro w' HM) | ((with_reducible apply crY HM); exact crS) | ((with_reducible apply clY HM); exact clS; clear HM; intro w' HM)
    | ((with_reducible apply own_box1 HM); exact rfl; (conv => lhs; whnf); exact rfl; exact rfl; clear tg1 HM; intro w' g1 HM)
    | ((with_reducible apply own_load1 HM); exact rfl; exact rfl; exact tS; exact rfl)
    | (go_at_call 170; have hco := Lib.hid (Co.ok (l := _ :: l) HM.out HG.out HX.out); (with_reducible refine (jump_at _ hco).mono ?_); clear hco; rintro e w' ⟨rfl, hc⟩; clear HM HF HG HX; obtain ⟨X, HF, HG, HX, HM⟩ := hc.out.hid1; clear hc))
  go_ret
  have hco := Co.ok (l := _ :: l) HM.out HG.out HX.out
  exact ⟨rfl, Lib.hid (hco.drop.less (by omega))⟩
set_option maxRecDepth 100000 in
set_option maxHeartbeats 800000 in
theorem plainLast_4 {W0 w : World} {c b n : Nat} {s : Cs} {l : Blocks} (x y z p q : Nat) (hz : z = 4) (hT : Hid (Tabs W0)) (hy : y < 8) (h : Hid (Co W0 w c b s l (n + 4))) :
    Calls Tryz.prog 92 #[.pointer (some ⟨c, 0, none⟩), .agg #[.int .i64 (x : Int), .int .i64 (y : Int), .int .i64 (z : Int), .int .i64 (p : Int), .int .i64 (q : Int)]] w fun e w' => e = .returned (.int .i64 ((cond (rgMet s.r.f y) 17 10 : Nat) : Int)) ∧ Hid (Co W0 w' c b (s.callTo (rgMet s.r.f y)) l n) := by
  obtain ⟨hf, hg, X, hX, hO⟩ := h.out.out
  have HF := Lib.hid hf
  have HF0 := Lib.hid hf
  have HG := Lib.hid hg
  have HX := Lib.hid hX
  have HM := Lib.hid hO
  have z0 : ((z : Int) == 0) = false := by rw [hz]; rfl
  have z1 : ((z : Int) == 1) = false := by rw [hz]; rfl
  have z2 : ((z : Int) == 2) = false := by rw [hz]; rfl
  have z3 : ((z : Int) == 3) = false := by rw [hz]; rfl
  have z4 : ((z : Int) == 4) = true := by rw [hz]; rfl
  have z5 : ((z : Int) == 5) = false := by rw [hz]; rfl
  have z6 : ((z : Int) == 6) = false := by rw [hz]; rfl
  have z7 : ((z : Int) == 7) = false := by rw [hz]; rfl
  have f1 : s.r.f < 256 := hf.r.f
  have y8 : (y : Int) % 8 = ((y : Nat) : Int) := by omega
  clear h hf hg hX hO
  have tg1 : Hid True := trivial
  go_enter Tryz.func92, Tryz.ntmps92
  go_upto_region 14 with (first
    | ((with_reducible apply own_cell1 HM); exact rfl; exact rfl; exact dS; exact rfl)
    | ((with_reducible apply cgY HM); exact cgS) | ((with_reducible apply cpY HM); exact cpS; clear HM; intro w' HM) | ((with_reducible apply crY HM); exact crS) | ((with_reducible apply clY HM); exact clS; clear HM; intro w' HM)
    | ((with_reducible apply own_box1 HM); exact rfl; (conv => lhs; whnf); exact rfl; exact rfl; clear tg1 HM; intro w' g1 HM)
    | ((with_reducible apply own_load1 HM); exact rfl; exact rfl; exact tS; exact rfl))
  (refine own_tail 9 HM (by kernel_rfl) (by kernel_rfl) (by kernel_rfl) ?_; simp only [List.take_succ_cons, List.take_zero, List.drop_succ_cons, List.drop_zero]; (try simp only [Act.put, List.setIfInBounds_toArray, List.set_cons_zero, List.set_cons_succ]); repeat ((fail_if_success (with_reducible refine wpQuiet_nil ?_)); first | go_big_quiet_skip | (go_big_quiet_want; first | ((with_reducible apply quiet_get); exact rfl; exact wS; exact sS; exact rfl; go_big_quiet_op; go_big_quiet_on) | ((with_reducible apply quiet_load); exact rfl; (with_reducible exact aggR); exact sS; exact Cs.drop0 _ _; exact Cs.take29 _ _; go_big_quiet_op; go_big_quiet_on) | ((with_reducible apply quiet_load); exact rfl; (first | (with_reducible exact aggParts)); exact sS; exact dS; exact tS; go_big_quiet_op; go_big_quiet_on) | ((with_reducible apply quiet_cell); exact rfl; (first | (with_reducible exact oneInt)); exact sS; exact dS; go_big_quiet_op; go_big_quiet_on) | ((with_reducible apply quiet_call); exact fun w => rfl; (focus (go_simp; all_goals with_reducible rfl)); (intro wq HQ; first | (with_reducible exact (met_at s.r.f y _ f1 y8 _ (Lib.hid rfl) _ (Tabs.own hT HQ).ask).mono fun _ _ ⟨he, hw⟩ => ⟨he, hw ▸ Below.refl _ _⟩)); go_big_quiet_op; go_big_quiet_on) | (go_big_quiet_op; go_big_quiet_on) | (go_big_quiet_op; refine ⟨_, fun _ _ => rfl, ?_⟩; go_big_quiet_on))))
  refine wpQuiet_nil ?_
  intro w' HM'
  clear HM; have HM := HM'; clear HM'
  go_wp2_with (first
    | ((with_reducible apply own_cell1 HM); exact rfl; exact rfl; exact dS; exact rfl)
    | ((with_reducible apply cgY HM); exact cgS) | ((with_reducible apply cpY HM); exact cpS; clear HM; intro w' HM) | ((with_reducible apply crY HM); exact crS) | ((with_reducible apply clY HM); exact clS; clear HM; intro w' HM)
    | ((with_reducible apply own_box1 HM); exact rfl; (conv => lhs; whnf); exact rfl; exact rfl; clear tg1 HM; intro w' g1 HM)
    | ((with_reducible apply own_load1 HM); exact rfl; exact rfl; exact tS; exact rfl)
    | (go_at_call 172; have hco := Lib.hid (Co.ok (l := _ :: l) HM.out HG.out HX.out); (with_reducible refine (call_at _ hco).mono ?_); clear hco; rintro e w' ⟨rfl, hc⟩; clear HM HF HG HX; obtain ⟨X, HF, HG, HX, HM⟩ := hc.out.hid1; clear hc))
  go_ret
  have hco := Co.ok (l := _ :: l) HM.out HG.out HX.out
  exact ⟨rfl, Lib.hid (hco.drop.less (by omega))⟩
set_option maxRecDepth 100000 in
set_option maxHeartbeats 800000 in
theorem plainLast_1n {W0 w : World} {c b n : Nat} {s : Cs} {l : Blocks} (x y z p q : Nat) (hz : z = 1) (hq : q = 0) (h : Hid (Co W0 w c b s l (n + 4))) :
    Calls Tryz.prog 92 #[.pointer (some ⟨c, 0, none⟩), .agg #[.int .i64 (x : Int), .int .i64 (y : Int), .int .i64 (z : Int), .int .i64 (p : Int), .int .i64 (q : Int)]] w fun e w' => e = .returned (.int .i64 10) ∧ Hid (Co W0 w' c b (s.pop.setPair (Cs.stacked p) s.popV) l n) := by
  obtain ⟨hf, hg, X, hX, hO⟩ := h.out.out
  have HF := Lib.hid hf
  have HF0 := Lib.hid hf
  have HG := Lib.hid hg
  have HX := Lib.hid hX
  have HM := Lib.hid hO
  have z0 : ((z : Int) == 0) = false := by rw [hz]; rfl
  have z1 : ((z : Int) == 1) = true := by rw [hz]; rfl
  have z2 : ((z : Int) == 2) = false := by rw [hz]; rfl
  have z3 : ((z : Int) == 3) = false := by rw [hz]; rfl
  have z4 : ((z : Int) == 4) = false := by rw [hz]; rfl
  have z5 : ((z : Int) == 5) = false := by rw [hz]; rfl
  have z6 : ((z : Int) == 6) = false := by rw [hz]; rfl
  have z7 : ((z : Int) == 7) = false := by rw [hz]; rfl
  have q0 : ((q : Int) == 0) = true := by rw [hq]; rfl
  have N1 : s.popV < 65536 := Cs.numV_lt hf _
  clear h hf hg hX hO
  have tg1 : Hid True := trivial
  go_enter Tryz.func92, Tryz.ntmps92
  go_wp2_with (first
    | ((with_reducible apply own_cell1 HM); exact rfl; exact rfl; exact dS; exact rfl)
    | ((with_reducible apply cgY HM); exact cgS) | ((with_reducible apply cpY HM); exact cpS; clear HM; intro w' HM) | ((with_reducible apply crY HM); exact crS) | ((with_reducible apply clY HM); exact clS; clear HM; intro w' HM)
    | ((with_reducible apply own_box1 HM); exact rfl; (conv => lhs; whnf); exact rfl; exact rfl; clear tg1 HM; intro w' g1 HM)
    | ((with_reducible apply own_load1 HM); exact rfl; exact rfl; exact tS; exact rfl)
    | (go_at_call 167; (with_reducible refine (stacked_at p _).mono ?_); rintro e w' ⟨rfl, rfl⟩)
    | (go_at_call 168; have hco := Lib.hid (Co.ok (l := _ :: l) HM.out HG.out HX.out); (with_reducible refine (pop_at hco).mono ?_); clear hco; rintro e w' ⟨rfl, hc⟩; clear HM HF HG HX; obtain ⟨X, HF, HG, HX, HM⟩ := hc.out.hid1; clear hc)
    | (go_at_call 152; have hco := Lib.hid (Co.ok (l := _ :: l) HM.out HG.out HX.out); (with_reducible refine (csetPair_at _ _ N1 hco).mono ?_); clear hco; rintro e w' ⟨rfl, hc⟩; clear HM HF HG HX; obtain ⟨X, HF, HG, HX, HM⟩ := hc.out.hid1; clear hc))
  go_ret
  have hco := Co.ok (l := _ :: l) HM.out HG.out HX.out
  exact ⟨rfl, Lib.hid (hco.drop.less (by omega))⟩
set_option maxRecDepth 100000 in
set_option maxHeartbeats 800000 in
theorem plainLast_1o {W0 w : World} {c b n : Nat} {s : Cs} {l : Blocks} (x y z p q : Nat) (hz : z = 1) (hq : ¬ q = 0) (hp : p < 4) (h : Hid (Co W0 w c b s l (n + 4))) :
    Calls Tryz.prog 92 #[.pointer (some ⟨c, 0, none⟩), .agg #[.int .i64 (x : Int), .int .i64 (y : Int), .int .i64 (z : Int), .int .i64 (p : Int), .int .i64 (q : Int)]] w fun e w' => e = .returned (.int .i64 ((Cs.lastOddC p : Nat) : Int)) ∧ Hid (Co W0 w' c b (s.lastOdd p) l n) := by
  obtain ⟨hf, hg, X, hX, hO⟩ := h.out.out
  have HF := Lib.hid hf
  have HF0 := Lib.hid hf
  have HG := Lib.hid hg
  have HX := Lib.hid hX
  have HM := Lib.hid hO
  have z0 : ((z : Int) == 0) = false := by rw [hz]; rfl
  have z1 : ((z : Int) == 1) = true := by rw [hz]; rfl
  have z2 : ((z : Int) == 2) = false := by rw [hz]; rfl
  have z3 : ((z : Int) == 3) = false := by rw [hz]; rfl
  have z4 : ((z : Int) == 4) = false := by rw [hz]; rfl
  have z5 : ((z : Int) == 5) = false := by rw [hz]; rfl
  have z6 : ((z : Int) == 6) = false := by rw [hz]; rfl
  have z7 : ((z : Int) == 7) = false := by rw [hz]; rfl
  have q0 : ((q : Int) == 0) = false := by simp; omega
  clear h hf hg hX hO
  have tg1 : Hid True := trivial
  go_enter Tryz.func92, Tryz.ntmps92
  go_wp2_with (first
    | ((with_reducible apply own_cell1 HM); exact rfl; exact rfl; exact dS; exact rfl)
    | ((with_reducible apply cgY HM); exact cgS) | ((with_reducible apply cpY HM); exact cpS; clear HM; intro w' HM) | ((with_reducible apply crY HM); exact crS) | ((with_reducible apply clY HM); exact clS; clear HM; intro w' HM)
    | ((with_reducible apply own_box1 HM); exact rfl; (conv => lhs; whnf); exact rfl; exact rfl; clear tg1 HM; intro w' g1 HM)
    | ((with_reducible apply own_load1 HM); exact rfl; exact rfl; exact tS; exact rfl)
    | (go_at_call 169; have hco := Lib.hid (Co.ok (l := _ :: l) HM.out HG.out HX.out); (with_reducible refine (lastOdd_at p hp hco).mono ?_); clear hco; rintro e w' ⟨rfl, hc⟩; clear HM HF HG HX; obtain ⟨X, HF, HG, HX, HM⟩ := hc.out.hid1; clear hc))
  go_ret
  have hco := Co.ok (l := _ :: l) HM.out HG.out HX.out
  exact ⟨rfl, Lib.hid (hco.drop.less (by omega))⟩
set_option maxRecDepth 100000 in
set_option maxHeartbeats 800000 in
theorem plainLast_3 {W0 w : World} {c b n : Nat} {s : Cs} {l : Blocks} (x y z p q : Nat) (hz : z = 3) (hy : y < 8) (h : Hid (Co W0 w c b s l (n + 4))) :
    Calls Tryz.prog 92 #[.pointer (some ⟨c, 0, none⟩), .agg #[.int .i64 (x : Int), .int .i64 (y : Int), .int .i64 (z : Int), .int .i64 (p : Int), .int .i64 (q : Int)]] w fun e w' => e = .returned (.int .i64 ((Cs.mixedC y : Nat) : Int)) ∧ Hid (Co W0 w' c b (s.mixed y) l n) := by
  obtain ⟨hf, hg, X, hX, hO⟩ := h.out.out
  have HF := Lib.hid hf
  have HF0 := Lib.hid hf
  have HG := Lib.hid hg
  have HX := Lib.hid hX
  have HM := Lib.hid hO
  have z0 : ((z : Int) == 0) = false := by rw [hz]; rfl
  have z1 : ((z : Int) == 1) = false := by rw [hz]; rfl
  have z2 : ((z : Int) == 2) = false := by rw [hz]; rfl
  have z3 : ((z : Int) == 3) = true := by rw [hz]; rfl
  have z4 : ((z : Int) == 4) = false := by rw [hz]; rfl
  have z5 : ((z : Int) == 5) = false := by rw [hz]; rfl
  have z6 : ((z : Int) == 6) = false := by rw [hz]; rfl
  have z7 : ((z : Int) == 7) = false := by rw [hz]; rfl
  clear h hf hg hX hO
  have tg1 : Hid True := trivial
  go_enter Tryz.func92, Tryz.ntmps92
  go_wp2_with (first
    | ((with_reducible apply own_cell1 HM); exact rfl; exact rfl; exact dS; exact rfl)
    | ((with_reducible apply cgY HM); exact cgS) | ((with_reducible apply cpY HM); exact cpS; clear HM; intro w' HM) | ((with_reducible apply crY HM); exact crS) | ((with_reducible apply clY HM); exact clS; clear HM; intro w' HM)
    | ((with_reducible apply own_box1 HM); exact rfl; (conv => lhs; whnf); exact rfl; exact rfl; clear tg1 HM; intro w' g1 HM)
    | ((with_reducible apply own_load1 HM); exact rfl; exact rfl; exact tS; exact rfl)
    | (go_at_call 171; have hco := Lib.hid (Co.ok (l := _ :: l) HM.out HG.out HX.out); (with_reducible refine (mixed_at y hy hco).mono ?_); clear hco; rintro e w' ⟨rfl, hc⟩; clear HM HF HG HX; obtain ⟨X, HF, HG, HX, HM⟩ := hc.out.hid1; clear hc))
  go_ret
  have hco := Co.ok (l := _ :: l) HM.out HG.out HX.out
  exact ⟨rfl, Lib.hid (hco.drop.less (by omega))⟩
set_option maxRecDepth 100000 in
set_option maxHeartbeats 800000 in
theorem plainLast_5n {W0 w : World} {c b n : Nat} {s : Cs} {l : Blocks} (x y z p q : Nat) (hz : z = 5) (hq : q = 0) (h : Hid (Co W0 w c b s l (n + 4))) :
    Calls Tryz.prog 92 #[.pointer (some ⟨c, 0, none⟩), .agg #[.int .i64 (x : Int), .int .i64 (y : Int), .int .i64 (z : Int), .int .i64 (p : Int), .int .i64 (q : Int)]] w fun e w' => e = .returned (.int .i64 11) ∧ Hid (Co W0 w' c b (s.push (s.pair (Cs.stacked p))) l n) := by
  obtain ⟨hf, hg, X, hX, hO⟩ := h.out.out
  have HF := Lib.hid hf
  have HF0 := Lib.hid hf
  have HG := Lib.hid hg
  have HX := Lib.hid hX
  have HM := Lib.hid hO
  have z0 : ((z : Int) == 0) = false := by rw [hz]; rfl
  have z1 : ((z : Int) == 1) = false := by rw [hz]; rfl
  have z2 : ((z : Int) == 2) = false := by rw [hz]; rfl
  have z3 : ((z : Int) == 3) = false := by rw [hz]; rfl
  have z4 : ((z : Int) == 4) = false := by rw [hz]; rfl
  have z5 : ((z : Int) == 5) = true := by rw [hz]; rfl
  have z6 : ((z : Int) == 6) = false := by rw [hz]; rfl
  have z7 : ((z : Int) == 7) = false := by rw [hz]; rfl
  have q0 : ((q : Int) == 0) = true := by rw [hq]; rfl
  have N1 : s.pair (Cs.stacked p) < 65536 := Cs.pair_lt hf _
  clear h hf hg hX hO
  have tg1 : Hid True := trivial
  go_enter Tryz.func92, Tryz.ntmps92
  go_wp2_with (first
    | ((with_reducible apply own_cell1 HM); exact rfl; exact rfl; exact dS; exact rfl)
    | ((with_reducible apply cgY HM); exact cgS) | ((with_reducible apply cpY HM); exact cpS; clear HM; intro w' HM) | ((with_reducible apply crY HM); exact crS) | ((with_reducible apply clY HM); exact clS; clear HM; intro w' HM)
    | ((with_reducible apply own_box1 HM); exact rfl; (conv => lhs; whnf); exact rfl; exact rfl; clear tg1 HM; intro w' g1 HM)
    | ((with_reducible apply own_load1 HM); exact rfl; exact rfl; exact tS; exact rfl)
    | (go_at_call 167; (with_reducible refine (stacked_at p _).mono ?_); rintro e w' ⟨rfl, rfl⟩)
    | (go_at_call 83; (with_reducible refine (cpair_q .z HM HF.out _).mono ?_); rintro e w' ⟨rfl, hb⟩; replace HM := Lib.hid (HM.out.call hb); clear hb)
    | (go_at_call 93; have hco := Lib.hid (Co.ok (l := _ :: l) HM.out HG.out HX.out); (with_reducible refine (push_at _ N1 hco).mono ?_); clear hco; rintro e w' ⟨rfl, hc⟩; clear HM HF HG HX; obtain ⟨X, HF, HG, HX, HM⟩ := hc.out.hid1; clear hc))
  go_ret
  have hco := Co.ok (l := _ :: l) HM.out HG.out HX.out
  exact ⟨rfl, Lib.hid (hco.drop.less (by omega))⟩
set_option maxRecDepth 100000 in
set_option maxHeartbeats 800000 in
theorem plainLast_5o {W0 w : World} {c b n : Nat} {s : Cs} {l : Blocks} (x y z p q : Nat) (hz : z = 5) (hq : ¬ q = 0) (h : Hid (Co W0 w c b s l (n + 4))) :
    Calls Tryz.prog 92 #[.pointer (some ⟨c, 0, none⟩), .agg #[.int .i64 (x : Int), .int .i64 (y : Int), .int .i64 (z : Int), .int .i64 (p : Int), .int .i64 (q : Int)]] w fun e w' => e = .returned (.int .i64 17) ∧ Hid (Co W0 w' c b (s.callTo true) l n) := by
  obtain ⟨hf, hg, X, hX, hO⟩ := h.out.out
  have HF := Lib.hid hf
  have HF0 := Lib.hid hf
  have HG := Lib.hid hg
  have HX := Lib.hid hX
  have HM := Lib.hid hO
  have z0 : ((z : Int) == 0) = false := by rw [hz]; rfl
  have z1 : ((z : Int) == 1) = false := by rw [hz]; rfl
  have z2 : ((z : Int) == 2) = false := by rw [hz]; rfl
  have z3 : ((z : Int) == 3) = false := by rw [hz]; rfl
  have z4 : ((z : Int) == 4) = false := by rw [hz]; rfl
  have z5 : ((z : Int) == 5) = true := by rw [hz]; rfl
  have z6 : ((z : Int) == 6) = false := by rw [hz]; rfl
  have z7 : ((z : Int) == 7) = false := by rw [hz]; rfl
  have q0 : ((q : Int) == 0) = false := by simp; omega
  clear h hf hg hX hO
  have tg1 : Hid True := trivial
  go_enter Tryz.func92, Tryz.ntmps92
  go_wp2_with (first
    | ((with_reducible apply own_cell1 HM); exact rfl; exact rfl; exact dS; exact rfl)
    | ((with_reducible apply cgY HM); exact cgS) | ((with_reducible apply cpY HM); exact cpS; clear HM; intro w' HM) | ((with_reducible apply crY HM); exact crS) | ((with_reducible apply clY HM); exact clS; clear HM; intro w' HM)
    | ((with_reducible apply own_box1 HM); exact rfl; (conv => lhs; whnf); exact rfl; exact rfl; clear tg1 HM; intro w' g1 HM)
    | ((with_reducible apply own_load1 HM); exact rfl; exact rfl; exact tS; exact rfl)
    | (go_at_call 172; have hco := Lib.hid (Co.ok (l := _ :: l) HM.out HG.out HX.out); (with_reducible refine (call_true hco).mono ?_); clear hco; rintro e w' ⟨rfl, hc⟩; clear HM HF HG HX; obtain ⟨X, HF, HG, HX, HM⟩ := hc.out.hid1; clear hc))
  go_ret
  have hco := Co.ok (l := _ :: l) HM.out HG.out HX.out
  exact ⟨rfl, Lib.hid (hco.drop.less (by omega))⟩
set_option maxRecDepth 100000 in
set_option maxHeartbeats 800000 in
theorem plainLast_6 {W0 w : World} {c b n : Nat} {s : Cs} {l : Blocks} (x y z p q : Nat) (hz : z = 6) (hy : y < 8) (h : Hid (Co W0 w c b s l (n + 4))) :
    Calls Tryz.prog 92 #[.pointer (some ⟨c, 0, none⟩), .agg #[.int .i64 (x : Int), .int .i64 (y : Int), .int .i64 (z : Int), .int .i64 (p : Int), .int .i64 (q : Int)]] w fun e w' => e = .returned (.int .i64 7) ∧ Hid (Co W0 w' c b (s.next.sum y s.nextV) l n) := by
  obtain ⟨hf, hg, X, hX, hO⟩ := h.out.out
  have HF := Lib.hid hf
  have HF0 := Lib.hid hf
  have HG := Lib.hid hg
  have HX := Lib.hid hX
  have HM := Lib.hid hO
  have z0 : ((z : Int) == 0) = false := by rw [hz]; rfl
  have z1 : ((z : Int) == 1) = false := by rw [hz]; rfl
  have z2 : ((z : Int) == 2) = false := by rw [hz]; rfl
  have z3 : ((z : Int) == 3) = false := by rw [hz]; rfl
  have z4 : ((z : Int) == 4) = false := by rw [hz]; rfl
  have z5 : ((z : Int) == 5) = false := by rw [hz]; rfl
  have z6 : ((z : Int) == 6) = true := by rw [hz]; rfl
  have z7 : ((z : Int) == 7) = false := by rw [hz]; rfl
  have v1 : s.nextV < 256 := hf.m _
  clear h hf hg hX hO
  have tg1 : Hid True := trivial
  go_enter Tryz.func92, Tryz.ntmps92
  go_upto_region 21 with (first
    | ((with_reducible apply own_cell1 HM); exact rfl; exact rfl; exact dS; exact rfl)
    | ((with_reducible apply cgY HM); exact cgS) | ((with_reducible apply cpY HM); exact cpS; clear HM; intro w' HM) | ((with_reducible apply crY HM); exact crS) | ((with_reducible apply clY HM); exact clS; clear HM; intro w' HM)
    | ((with_reducible apply own_box1 HM); exact rfl; (conv => lhs; whnf); exact rfl; exact rfl; clear tg1 HM; intro w' g1 HM)
    | ((with_reducible apply own_load1 HM); exact rfl; exact rfl; exact tS; exact rfl))
  have HM' := Lib.hid HM.out.drew
  clear HM; have HM := HM'; clear HM'
  have d1 := HM.out.cells_at (.s .z) 1 _ rfl
  go_region_held3 (fun w' => w'.cell? ⟨g1, 1, none⟩ = some (.int .i64 (y : Int))) (first | assumption | (simp only [*]; trivial) | simp [*]) (first
    | (go_at_call 78; have hco := Lib.hid (Co.ok (l := _ :: l) HM.out HG.out HX.out); (with_reducible refine (next_at (n := n + 3) hco).mono ?_); clear hco; rintro e w' ⟨rfl, hc⟩; clear HM HF HG HX; obtain ⟨X, HF, HG, HX, HM⟩ := hc.out.hid1; clear hc; have d1 := HM.out.cells_at (.s .z) 1 _ rfl)
    | (go_at_call 91; have hco := Lib.hid (Co.ok (l := _ :: l) HM.out HG.out HX.out); (with_reducible refine (sum_at y _ hy v1 hco).mono ?_); clear hco; rintro e w' ⟨rfl, hc⟩; clear HM HF HG HX; obtain ⟨X, HF, HG, HX, HM⟩ := hc.out.hid1; clear hc; have d1 := HM.out.cells_at (.s .z) 1 _ rfl))
  all_goals go_wp2_with (first | ((with_reducible apply own_cell1 HM); exact rfl; exact rfl; exact dS; exact rfl) | ((with_reducible apply cgY HM); exact cgS) | ((with_reducible apply cpY HM); exact cpS; clear HM; intro w' HM) | ((with_reducible apply crY HM); exact crS) | ((with_reducible apply clY HM); exact clS; clear HM; intro w' HM) | ((with_reducible apply own_box1 HM); exact rfl; (conv => lhs; whnf); exact rfl; exact rfl; clear tg1 HM; intro w' g1 HM) | ((with_reducible apply own_load1 HM); exact rfl; exact rfl; exact tS; exact rfl))
  all_goals go_ret
  all_goals have hco := Co.ok (l := _ :: l) HM.out HG.out HX.out
  all_goals exact ⟨rfl, Lib.hid (hco.drop.less (by omega))⟩
set_option maxRecDepth 100000 in
set_option maxHeartbeats 800000 in
theorem plainLast_7 {W0 w : World} {c b n : Nat} {s : Cs} {l : Blocks} (x y z p q : Nat) (hz : z = 7) (hy : y < 8) (h : Hid (Co W0 w c b s l (n + 4))) :
    Calls Tryz.prog 92 #[.pointer (some ⟨c, 0, none⟩), .agg #[.int .i64 (x : Int), .int .i64 (y : Int), .int .i64 (z : Int), .int .i64 (p : Int), .int .i64 (q : Int)]] w fun e w' => e = .returned (.int .i64 11) ∧ Hid (Co W0 w' c b (s.start (y * 8)) l n) := by
  obtain ⟨hf, hg, X, hX, hO⟩ := h.out.out
  have HF := Lib.hid hf
  have HF0 := Lib.hid hf
  have HG := Lib.hid hg
  have HX := Lib.hid hX
  have HM := Lib.hid hO
  have z0 : ((z : Int) == 0) = false := by rw [hz]; rfl
  have z1 : ((z : Int) == 1) = false := by rw [hz]; rfl
  have z2 : ((z : Int) == 2) = false := by rw [hz]; rfl
  have z3 : ((z : Int) == 3) = false := by rw [hz]; rfl
  have z4 : ((z : Int) == 4) = false := by rw [hz]; rfl
  have z5 : ((z : Int) == 5) = false := by rw [hz]; rfl
  have z6 : ((z : Int) == 6) = false := by rw [hz]; rfl
  have z7 : ((z : Int) == 7) = true := by rw [hz]; rfl
  obtain ⟨A, hA⟩ : ∃ A, Hid (y * 8 = A) := ⟨_, rfl⟩
  have hA2 := hA.out
  have a1 : A < 65536 := by omega
  have e8 : IntKind.i64.wrap ((y : Int) * 8) = (A : Int) := by rw [IntKind.wrap_i64]; omega
  have e9 : IntKind.u16.wrap (A : Int) = (A : Int) := by show (A : Int) % 65536 = _; omega
  rw [hA2]
  have a2 : (A : Int) < 65536 := by omega
  clear hA2
  clear h hf hg hX hO
  have tg1 : Hid True := trivial
  go_enter Tryz.func92, Tryz.ntmps92
  go_wp2_with (first
    | ((with_reducible apply own_cell1 HM); exact rfl; exact rfl; exact dS; exact rfl)
    | ((with_reducible apply cgY HM); exact cgS) | ((with_reducible apply cpY HM); exact cpS; clear HM; intro w' HM) | ((with_reducible apply crY HM); exact crS) | ((with_reducible apply clY HM); exact clS; clear HM; intro w' HM)
    | ((with_reducible apply own_box1 HM); exact rfl; (conv => lhs; whnf); exact rfl; exact rfl; clear tg1 HM; intro w' g1 HM)
    | ((with_reducible apply own_load1 HM); exact rfl; exact rfl; exact tS; exact rfl)
    | (go_at_call 50; have hco := Lib.hid (Co.ok (l := _ :: l) HM.out HG.out HX.out); (with_reducible refine (begin_at _ a1 hco).mono ?_); clear hco; rintro e w' ⟨rfl, hc⟩; clear HM HF HG HX; obtain ⟨X, HF, HG, HX, HM⟩ := hc.out.hid1; clear hc))
  go_ret
  have hco := Co.ok (l := _ :: l) HM.out HG.out HX.out
  exact ⟨rfl, Lib.hid (hco.drop.less (by omega))⟩
set_option maxRecDepth 100000 in
theorem plainLast_at {W0 w : World} {c b n : Nat} {s : Cs} {l : Blocks} (hT : Hid (Tabs W0)) (x y z p q : Nat) (hy : y < 8) (hz : z < 8) (hp : y / 2 = p) (hq : y % 2 = q) (h : Hid (Co W0 w c b s l (n + 4))) :
    Calls Tryz.prog 92 #[.pointer (some ⟨c, 0, none⟩), .agg #[.int .i64 (x : Int), .int .i64 (y : Int), .int .i64 (z : Int), .int .i64 (p : Int), .int .i64 (q : Int)]] w fun e w' => e = .returned (.int .i64 ((s.plain3C y z : Nat) : Int)) ∧ Hid (Co W0 w' c b (s.plain3 y z) l n) := by
  by_cases h0 : z = 0
  · have e2 : s.plain3 y z = s.backIf (rgMet s.r.f y) := if_pos (by omega)
    have e3 : s.plain3C y z = cond (rgMet s.r.f y) 11 5 := if_pos (by omega)
    rw [e2, e3]; exact plainLast_0 x y z p q h0 hT hy h
  by_cases h2 : z = 2
  · have e2 : s.plain3 y z = s.jumpTo (rgMet s.r.f y) := (if_neg (by omega)).trans ((if_neg (by omega)).trans (if_pos (by omega)))
    have e3 : s.plain3C y z = 10 := (if_neg (by omega)).trans ((if_neg (by omega)).trans (if_pos (by omega)))
    rw [e2, e3]; exact plainLast_2 x y z p q h2 hT hy h
  by_cases h3 : z = 3
  · have e2 : s.plain3 y z = s.mixed y := (if_neg (by omega)).trans ((if_neg (by omega)).trans ((if_neg (by omega)).trans (if_pos (by omega))))
    have e3 : s.plain3C y z = Cs.mixedC y := (if_neg (by omega)).trans ((if_neg (by omega)).trans ((if_neg (by omega)).trans (if_pos (by omega))))
    rw [e2, e3]; exact plainLast_3 x y z p q h3 hy h
  by_cases h4 : z = 4
  · have e2 : s.plain3 y z = s.callTo (rgMet s.r.f y) := (if_neg (by omega)).trans ((if_neg (by omega)).trans ((if_neg (by omega)).trans ((if_neg (by omega)).trans (if_pos (by omega)))))
    have e3 : s.plain3C y z = cond (rgMet s.r.f y) 17 10 := (if_neg (by omega)).trans ((if_neg (by omega)).trans ((if_neg (by omega)).trans ((if_neg (by omega)).trans (if_pos (by omega)))))
    rw [e2, e3]; exact plainLast_4 x y z p q h4 hT hy h
  by_cases h6 : z = 6
  · have e2 : s.plain3 y z = s.next.sum y s.nextV := (if_neg (by omega)).trans ((if_neg (by omega)).trans ((if_neg (by omega)).trans ((if_neg (by omega)).trans ((if_neg (by omega)).trans ((if_neg (by omega)).trans (if_pos (by omega)))))))
    have e3 : s.plain3C y z = 7 := (if_neg (by omega)).trans ((if_neg (by omega)).trans ((if_neg (by omega)).trans ((if_neg (by omega)).trans ((if_neg (by omega)).trans ((if_neg (by omega)).trans (if_pos (by omega)))))))
    rw [e2, e3]; exact plainLast_6 x y z p q h6 hy h
  by_cases h1 : z = 1
  · by_cases h8 : q = 0
    · have e2 : s.plain3 y z = s.pop.setPair (Cs.stacked (y / 2)) s.popV := (if_neg (by omega)).trans ((if_pos h1).trans (if_pos (by omega)))
      have e3 : s.plain3C y z = 10 := (if_neg (by omega)).trans ((if_pos h1).trans (if_pos (by omega)))
      rw [e2, e3, hp]
      exact plainLast_1n x y z p q h1 h8 h
    · have e2 : s.plain3 y z = s.lastOdd (y / 2) := (if_neg (by omega)).trans ((if_pos h1).trans (if_neg (by omega)))
      have e3 : s.plain3C y z = Cs.lastOddC (y / 2) := (if_neg (by omega)).trans ((if_pos h1).trans (if_neg (by omega)))
      rw [e2, e3]; rw [hp]
      exact plainLast_1o x y z p q h1 h8 (by omega) h
  by_cases h5 : z = 5
  · by_cases h8 : q = 0
    · have e2 : s.plain3 y z = s.push (s.pair (Cs.stacked (y / 2))) := (if_neg (by omega)).trans ((if_neg (by omega)).trans ((if_neg (by omega)).trans ((if_neg (by omega)).trans ((if_neg (by omega)).trans ((if_pos h5).trans (if_pos (by omega)))))))
      have e3 : s.plain3C y z = 11 := (if_neg (by omega)).trans ((if_neg (by omega)).trans ((if_neg (by omega)).trans ((if_neg (by omega)).trans ((if_neg (by omega)).trans ((if_pos h5).trans (if_pos (by omega)))))))
      rw [e2, e3, hp]
      exact plainLast_5n x y z p q h5 h8 h
    · have e2 : s.plain3 y z = s.callTo true := (if_neg (by omega)).trans ((if_neg (by omega)).trans ((if_neg (by omega)).trans ((if_neg (by omega)).trans ((if_neg (by omega)).trans ((if_pos h5).trans (if_neg (by omega)))))))
      have e3 : s.plain3C y z = 17 := (if_neg (by omega)).trans ((if_neg (by omega)).trans ((if_neg (by omega)).trans ((if_neg (by omega)).trans ((if_neg (by omega)).trans ((if_pos h5).trans (if_neg (by omega)))))))
      rw [e2, e3]
      exact plainLast_5o x y z p q h5 h8 h
  have h7 : z = 7 := by omega
  have e2 : s.plain3 y z = s.start (y * 8) := (if_neg (by omega)).trans ((if_neg (by omega)).trans ((if_neg (by omega)).trans ((if_neg (by omega)).trans ((if_neg (by omega)).trans ((if_neg (by omega)).trans (if_neg (by omega)))))))
  have e3 : s.plain3C y z = 11 := (if_neg (by omega)).trans ((if_neg (by omega)).trans ((if_neg (by omega)).trans ((if_neg (by omega)).trans ((if_neg (by omega)).trans ((if_neg (by omega)).trans (if_neg (by omega)))))))
  rw [e2, e3]; exact plainLast_7 x y z p q h7 hy h
end Go.Proofs.YtljjgakfnajifaaGreatDoor
