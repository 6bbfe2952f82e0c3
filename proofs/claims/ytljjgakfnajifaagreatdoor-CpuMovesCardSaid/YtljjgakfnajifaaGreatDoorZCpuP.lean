import Derived.Test.YtljjgakfnajifaaGreatDoorZCpuB1
import Derived.Deep.Cut
import Derived.Deep.CutRange
namespace Go.Proofs.YtljjgakfnajifaaGreatDoor
open Go.RowKit
set_option maxRecDepth 100000 in
set_option maxHeartbeats 400000 in
theorem addPair_at {W0 w : World} {c b n : Nat} {s : Cs} {l : Blocks} (i : Int) (h : Hid (Co W0 w c b s l (n))) :
    Calls Tryz.prog 154 #[.pointer (some ⟨c, 0, none⟩), .int .i64 i] w fun e w' => e = .returned (.int .i64 11) ∧ Hid (Co W0 w' c b (s.addPair i) l n) := by
  obtain ⟨hf, hg, X, hX, hO⟩ := h.out.out
  have HF := Lib.hid hf
  have HF0 := Lib.hid hf
  have HG := Lib.hid hg
  have HX := Lib.hid hX
  have HM := Lib.hid hO
  have p1 : s.pair 2 < 65536 := Cs.pair_lt hf _
  have p2 : s.pair i < 65536 := Cs.pair_lt hf _
  have f1 : s.r.f < 256 := hf.r.f
  have h3 : wAddF (s.pair 2) (s.pair i) s.r.f < 256 := wAddF_lt _ _ _
  have h4 : wAddV (s.pair 2) (s.pair i) 0 < 65536 := wAddV_lt _ _ _
  have e1 : IntKind.u16.wrap ((s.pair 2 : Int) + 1) = ((up1 (s.pair 2) : Nat) : Int) := by generalize s.pair 2 = k; unfold up1; show ((k : Int) + 1) % 65536 = _; omega
  clear h hf hg hX hO
  go_enter Tryz.func154, Tryz.ntmps154
  go_upto_region 2 with (first
    | ((with_reducible apply cgY HM); exact cgS) | ((with_reducible apply cpY HM); exact cpS; clear HM; intro w' HM) | ((with_reducible apply crY HM); exact crS) | ((with_reducible apply clY HM); exact clS; clear HM; intro w' HM)
    | (go_at_call 83; (with_reducible refine (cpair_q .z HM HF.out _).mono ?_); rintro e w' ⟨rfl, hb⟩; replace HM := Lib.hid (HM.out.call hb); clear hb))
  (refine own_region HM (by kernel_rfl) (by kernel_rfl) ?_; (try simp only [Act.put, List.setIfInBounds_toArray, List.set_cons_zero, List.set_cons_succ]); repeat ((fail_if_success (with_reducible refine wpQuiet_nil ?_)); first | go_big_quiet_skip | (go_big_quiet_want; first | ((with_reducible apply quiet_get); exact rfl; exact wS; exact sS; exact rfl; go_big_quiet_op; go_big_quiet_on) | ((with_reducible apply quiet_load); exact rfl; (with_reducible exact aggR); exact sS; exact Cs.drop0 _ _; exact Cs.take29 _ _; go_big_quiet_op; go_big_quiet_on) | ((with_reducible apply quiet_call); exact fun w => rfl; (focus (go_simp; all_goals with_reducible rfl)); (intro wq HQ; first | (with_reducible exact cpair_q .z HQ HF.out _) | (with_reducible exact (wadd_at _ _ _ _ _ p1 p2 f1 (Lib.hid rfl) (Lib.hid rfl) _).mono fun _ _ ⟨he, hw⟩ => ⟨he, hw ▸ Below.refl _ _⟩)); go_big_quiet_op; go_big_quiet_on) | (go_big_quiet_op; go_big_quiet_on) | (go_big_quiet_op; refine ⟨_, fun _ _ => rfl, ?_⟩; go_big_quiet_on))))
  refine wpQuiet_nil ?_
  intro w' HM'
  clear HM; have HM := HM'; clear HM'
  go_wp2_with (first
    | ((with_reducible apply cgY HM); exact cgS) | ((with_reducible apply cpY HM); exact cpS; clear HM; intro w' HM) | ((with_reducible apply crY HM); exact crS) | ((with_reducible apply clY HM); exact clS; clear HM; intro w' HM)
    | (go_at_call 152; have hco := Lib.hid (Co.ok HM.out HG.out HX.out); (with_reducible refine (csetPair_at 2 _ h4 hco).mono ?_); clear hco; rintro e w' ⟨rfl, hc⟩; clear HM HF HG HX; obtain ⟨X, HF, HG, HX, HM⟩ := hc.out.hid; clear hc))
  go_ret
  have hco := Co.ok HM.out HG.out HX.out
  exact ⟨rfl, Lib.hid hco⟩
set_option maxRecDepth 100000 in
set_option maxHeartbeats 400000 in
theorem countPair_0 {W0 w : World} {c b n : Nat} {s : Cs} {l : Blocks} (x y z p : Nat) (h : Hid (Co W0 w c b s l (n))) :
    Calls Tryz.prog 156 #[.pointer (some ⟨c, 0, none⟩), .agg #[.int .i64 (x : Int), .int .i64 (y : Int), .int .i64 (z : Int), .int .i64 (p : Int), .int .i64 0]] w fun e w' => e = .returned (.tuple #[]) ∧ Hid (Co W0 w' c b (s.setPair (p : Int) (up1 (s.pair (p : Int)))) l n) := by
  obtain ⟨hf, hg, X, hX, hO⟩ := h.out.out
  have HF := Lib.hid hf
  have HF0 := Lib.hid hf
  have HG := Lib.hid hg
  have HX := Lib.hid hX
  have HM := Lib.hid hO
  have e1 : IntKind.u16.wrap ((s.pair (p : Int) : Int) + 1) = ((up1 (s.pair (p : Int)) : Nat) : Int) := by generalize s.pair (p : Int) = k; unfold up1; show ((k : Int) + 1) % 65536 = _; omega
  have h1 := up1_lt (s.pair (p : Int))
  clear h hf hg hX hO
  have tg1 : Hid True := trivial
  go_enter Tryz.func156, Tryz.ntmps156
  go_upto_region 2 with (first
    | ((with_reducible apply own_cell1 HM); exact rfl; exact rfl; exact dS; exact rfl)
    | ((with_reducible apply cgY HM); exact cgS) | ((with_reducible apply cpY HM); exact cpS; clear HM; intro w' HM) | ((with_reducible apply crY HM); exact crS) | ((with_reducible apply clY HM); exact clS; clear HM; intro w' HM)
    | ((with_reducible apply own_box1 HM); exact rfl; (conv => lhs; whnf); exact rfl; exact rfl; clear tg1 HM; intro w' g1 HM)
    | ((with_reducible apply own_load1 HM); exact rfl; exact rfl; exact tS; exact rfl))
  (refine own_tail 8 HM (by kernel_rfl) (by kernel_rfl) (by kernel_rfl) ?_; simp only [List.take_succ_cons, List.take_zero, List.drop_succ_cons, List.drop_zero]; (try simp only [Act.put, List.setIfInBounds_toArray, List.set_cons_zero, List.set_cons_succ]); repeat ((fail_if_success (with_reducible refine wpQuiet_nil ?_)); first | go_big_quiet_skip | (go_big_quiet_want; first | ((with_reducible apply quiet_get); exact rfl; exact wS; exact sS; exact rfl; go_big_quiet_op; go_big_quiet_on) | ((with_reducible apply quiet_load); exact rfl; (with_reducible exact aggR); exact sS; exact Cs.drop0 _ _; exact Cs.take29 _ _; go_big_quiet_op; go_big_quiet_on) | ((with_reducible apply quiet_load); exact rfl; (first | (with_reducible exact aggParts)); exact sS; exact dS; exact tS; go_big_quiet_op; go_big_quiet_on) | ((with_reducible apply quiet_cell); exact rfl; (first | (with_reducible exact oneInt)); exact sS; exact dS; go_big_quiet_op; go_big_quiet_on) | ((with_reducible apply quiet_call); exact fun w => rfl; (focus (go_simp; all_goals with_reducible rfl)); (intro wq HQ; first | (with_reducible exact cpair_q .z HQ HF.out _)); go_big_quiet_op; go_big_quiet_on) | (go_big_quiet_op; go_big_quiet_on) | (go_big_quiet_op; refine ⟨_, fun _ _ => rfl, ?_⟩; go_big_quiet_on))))
  refine wpQuiet_nil ?_
  intro w' HM'
  clear HM; have HM := HM'; clear HM'
  go_wp2_with (first
    | ((with_reducible apply own_cell1 HM); exact rfl; exact rfl; exact dS; exact rfl)
    | ((with_reducible apply cgY HM); exact cgS) | ((with_reducible apply cpY HM); exact cpS; clear HM; intro w' HM) | ((with_reducible apply crY HM); exact crS) | ((with_reducible apply clY HM); exact clS; clear HM; intro w' HM)
    | ((with_reducible apply own_box1 HM); exact rfl; (conv => lhs; whnf); exact rfl; exact rfl; clear tg1 HM; intro w' g1 HM)
    | ((with_reducible apply own_load1 HM); exact rfl; exact rfl; exact tS; exact rfl)
    | (go_at_call 152; have hco := Lib.hid (Co.ok (l := _ :: l) HM.out HG.out HX.out); (with_reducible refine (csetPair_at _ _ h1 hco).mono ?_); clear hco; rintro e w' ⟨rfl, hc⟩; clear HM HF HG HX; obtain ⟨X, HF, HG, HX, HM⟩ := hc.out.hid1; clear hc))
  go_end0
  have hco := Co.ok (l := _ :: l) HM.out HG.out HX.out
  exact ⟨rfl, Lib.hid hco.drop⟩
set_option maxRecDepth 100000 in
set_option maxHeartbeats 400000 in
theorem countPair_1 {W0 w : World} {c b n : Nat} {s : Cs} {l : Blocks} (x y z p : Nat) (h : Hid (Co W0 w c b s l (n))) :
    Calls Tryz.prog 156 #[.pointer (some ⟨c, 0, none⟩), .agg #[.int .i64 (x : Int), .int .i64 (y : Int), .int .i64 (z : Int), .int .i64 (p : Int), .int .i64 1]] w fun e w' => e = .returned (.tuple #[]) ∧ Hid (Co W0 w' c b (s.setPair (p : Int) (dn1 (s.pair (p : Int)))) l n) := by
  obtain ⟨hf, hg, X, hX, hO⟩ := h.out.out
  have HF := Lib.hid hf
  have HF0 := Lib.hid hf
  have HG := Lib.hid hg
  have HX := Lib.hid hX
  have HM := Lib.hid hO
  have e1 : IntKind.u16.wrap ((s.pair (p : Int) : Int) - 1) = ((dn1 (s.pair (p : Int)) : Nat) : Int) := by generalize s.pair (p : Int) = k; unfold dn1; show ((k : Int) - 1) % 65536 = _; omega
  have h1 := dn1_lt (s.pair (p : Int))
  clear h hf hg hX hO
  have tg1 : Hid True := trivial
  go_enter Tryz.func156, Tryz.ntmps156
  go_upto_region 3 with (first
    | ((with_reducible apply own_cell1 HM); exact rfl; exact rfl; exact dS; exact rfl)
    | ((with_reducible apply cgY HM); exact cgS) | ((with_reducible apply cpY HM); exact cpS; clear HM; intro w' HM) | ((with_reducible apply crY HM); exact crS) | ((with_reducible apply clY HM); exact clS; clear HM; intro w' HM)
    | ((with_reducible apply own_box1 HM); exact rfl; (conv => lhs; whnf); exact rfl; exact rfl; clear tg1 HM; intro w' g1 HM)
    | ((with_reducible apply own_load1 HM); exact rfl; exact rfl; exact tS; exact rfl))
  (refine own_tail 8 HM (by kernel_rfl) (by kernel_rfl) (by kernel_rfl) ?_; simp only [List.take_succ_cons, List.take_zero, List.drop_succ_cons, List.drop_zero]; (try simp only [Act.put, List.setIfInBounds_toArray, List.set_cons_zero, List.set_cons_succ]); repeat ((fail_if_success (with_reducible refine wpQuiet_nil ?_)); first | go_big_quiet_skip | (go_big_quiet_want; first | ((with_reducible apply quiet_get); exact rfl; exact wS; exact sS; exact rfl; go_big_quiet_op; go_big_quiet_on) | ((with_reducible apply quiet_load); exact rfl; (with_reducible exact aggR); exact sS; exact Cs.drop0 _ _; exact Cs.take29 _ _; go_big_quiet_op; go_big_quiet_on) | ((with_reducible apply quiet_load); exact rfl; (first | (with_reducible exact aggParts)); exact sS; exact dS; exact tS; go_big_quiet_op; go_big_quiet_on) | ((with_reducible apply quiet_cell); exact rfl; (first | (with_reducible exact oneInt)); exact sS; exact dS; go_big_quiet_op; go_big_quiet_on) | ((with_reducible apply quiet_call); exact fun w => rfl; (focus (go_simp; all_goals with_reducible rfl)); (intro wq HQ; first | (with_reducible exact cpair_q .z HQ HF.out _)); go_big_quiet_op; go_big_quiet_on) | (go_big_quiet_op; go_big_quiet_on) | (go_big_quiet_op; refine ⟨_, fun _ _ => rfl, ?_⟩; go_big_quiet_on))))
  refine wpQuiet_nil ?_
  intro w' HM'
  clear HM; have HM := HM'; clear HM'
  go_wp2_with (first
    | ((with_reducible apply own_cell1 HM); exact rfl; exact rfl; exact dS; exact rfl)
    | ((with_reducible apply cgY HM); exact cgS) | ((with_reducible apply cpY HM); exact cpS; clear HM; intro w' HM) | ((with_reducible apply crY HM); exact crS) | ((with_reducible apply clY HM); exact clS; clear HM; intro w' HM)
    | ((with_reducible apply own_box1 HM); exact rfl; (conv => lhs; whnf); exact rfl; exact rfl; clear tg1 HM; intro w' g1 HM)
    | ((with_reducible apply own_load1 HM); exact rfl; exact rfl; exact tS; exact rfl)
    | (go_at_call 152; have hco := Lib.hid (Co.ok (l := _ :: l) HM.out HG.out HX.out); (with_reducible refine (csetPair_at _ _ h1 hco).mono ?_); clear hco; rintro e w' ⟨rfl, hc⟩; clear HM HF HG HX; obtain ⟨X, HF, HG, HX, HM⟩ := hc.out.hid1; clear hc))
  go_end0
  have hco := Co.ok (l := _ :: l) HM.out HG.out HX.out
  exact ⟨rfl, Lib.hid hco.drop⟩
set_option maxRecDepth 100000 in
set_option maxHeartbeats 400000 in
theorem moveA_z {W0 w : World} {c b n : Nat} {s : Cs} {l : Blocks} (a : Nat) (ha : a < 65536) (h : Hid (Co W0 w c b s l (n + 1))) :
    Calls Tryz.prog 213 #[.pointer (some ⟨c, 0, none⟩), .int .i64 0, .int .u16 (a : Int)] w fun e w' => e = .returned (.tuple #[]) ∧ Hid (Co W0 w' c b ((s.wr a s.r.a).setWZ (s.r.a * 256 + up1 a % 256)) l n) := by
  obtain ⟨hf, hg, X, hX, hO⟩ := h.out.out
  have HF := Lib.hid hf
  have HF0 := Lib.hid hf
  have HG := Lib.hid hg
  have HX := Lib.hid hX
  have HM := Lib.hid hO
  have a1 : s.r.a < 256 := hf.r.a
  obtain ⟨u, hu⟩ : ∃ u, Hid (up1 a = u) := ⟨_, rfl⟩
  obtain ⟨lo, hlo⟩ : ∃ x, Hid (u % 256 = x) := ⟨_, rfl⟩
  obtain ⟨hi, hhi⟩ : ∃ x, Hid (wHigh u = x) := ⟨_, rfl⟩
  obtain ⟨J, hJ⟩ : ∃ x, Hid (s.r.a * 256 + lo = x) := ⟨_, rfl⟩
  have u1 : u < 65536 := by rw [← hu.out]; exact up1_lt _
  have lo1 : lo < 256 := by rw [← hlo.out]; exact Nat.mod_lt _ (by decide)
  have J1 : J < 65536 := by rw [← hJ.out]; omega
  have e1 : IntKind.u16.wrap ((a : Int) + 1) = (u : Int) := by rw [← hu.out]; unfold up1; show ((a : Int) + 1) % 65536 = _; omega
  rw [hu.out, hlo.out, hJ.out]
  clear h hf hg hX hO
  have hmWrite : ∀ w : World, (method 309 28 (.pointer (some ⟨b, 0, none⟩)) "Write").run Tryz.prog w = .ok (261, .pointer (some ⟨b, 0, none⟩)) w := fun _ => by kernel_rfl
  go_enter Tryz.func213, Tryz.ntmps213
  go_upto_region 3 with fail
  (refine own_tail 12 HM (by kernel_rfl) (by kernel_rfl) (by kernel_rfl) ?_; simp only [List.take_succ_cons, List.take_zero, List.drop_succ_cons, List.drop_zero]; (try simp only [Act.put, List.setIfInBounds_toArray, List.set_cons_zero, List.set_cons_succ]); repeat ((fail_if_success (with_reducible refine wpQuiet_nil ?_)); first | go_big_quiet_skip | (go_big_quiet_want; first | ((with_reducible apply quiet_get); exact rfl; exact wS; exact sS; exact rfl; go_big_quiet_op; go_big_quiet_on) | ((with_reducible apply quiet_load); exact rfl; (with_reducible exact aggR); exact sS; exact Cs.drop0 _ _; exact Cs.take29 _ _; go_big_quiet_op; go_big_quiet_on) | (go_big_quiet_op; go_big_quiet_on) | (go_big_quiet_op; refine ⟨_, fun _ _ => rfl, ?_⟩; go_big_quiet_on))))
  refine wpQuiet_nil ?_
  intro w' HM'
  clear HM; have HM := HM'; clear HM'
  go_wp2_with (first
    | ((with_reducible apply cgY HM); exact cgS) | ((with_reducible apply cpY HM); exact cpS; clear HM; intro w' HM) | ((with_reducible apply crY HM); exact crS) | ((with_reducible apply clY HM); exact clS; clear HM; intro w' HM)
    | (go_at_call 261; have hco := Lib.hid (Co.ok HM.out HG.out HX.out); (with_reducible refine (wr_at _ _ ha a1 hco).mono ?_); clear hco; rintro e w' ⟨rfl, hc⟩; clear HM HF HG HX; obtain ⟨X, HF, HG, HX, HM⟩ := hc.out.hid; clear hc)
    | (go_at_call 141; (with_reducible refine (split_at u hi lo u1 hhi hlo _).mono ?_); rintro e w' ⟨rfl, rfl⟩)
    | (go_at_call 96; (with_reducible refine (join_at s.r.a lo J a1 lo1 hJ _).mono ?_); rintro e w' ⟨rfl, rfl⟩))
  go_end0
  have hco := Co.ok HM.out HG.out HX.out
  exact ⟨rfl, Lib.hid hco⟩
set_option maxRecDepth 100000 in
set_option maxHeartbeats 400000 in
theorem moveA_o {W0 w : World} {c b n : Nat} {s : Cs} {l : Blocks} (q a : Nat) (hq : ¬ q = 0) (ha : a < 65536) (h : Hid (Co W0 w c b s l (n + 1))) :
    Calls Tryz.prog 213 #[.pointer (some ⟨c, 0, none⟩), .int .i64 (q : Int), .int .u16 (a : Int)] w fun e w' => e = .returned (.tuple #[]) ∧ Hid (Co W0 w' c b (((s.rd a).setA (s.m a)).setWZ (up1 a)) l n) := by
  obtain ⟨hf, hg, X, hX, hO⟩ := h.out.out
  have HF := Lib.hid hf
  have HF0 := Lib.hid hf
  have HG := Lib.hid hg
  have HX := Lib.hid hX
  have HM := Lib.hid hO
  have m1 : s.m a < 256 := hf.m _
  have q1 : ((q : Int) != 0) = true := by simp; omega
  have e1 : IntKind.u16.wrap ((a : Int) + 1) = ((up1 a : Nat) : Int) := by unfold up1; show ((a : Int) + 1) % 65536 = _; omega
  clear h hf hg hX hO
  have hmRead : ∀ w : World, (method 309 28 (.pointer (some ⟨b, 0, none⟩)) "Read").run Tryz.prog w = .ok (260, .pointer (some ⟨b, 0, none⟩)) w := fun _ => by kernel_rfl
  go_enter Tryz.func213, Tryz.ntmps213
  go_wp2_with (first
    | ((with_reducible apply cgY HM); exact cgS) | ((with_reducible apply cpY HM); exact cpS; clear HM; intro w' HM) | ((with_reducible apply crY HM); exact crS) | ((with_reducible apply clY HM); exact clS; clear HM; intro w' HM)
    | (go_at_call 260; have hco := Lib.hid (Co.ok HM.out HG.out HX.out); (with_reducible refine (rd_at _ ha hco).mono ?_); clear hco; rintro e w' ⟨rfl, hc⟩; clear HM HF HG HX; obtain ⟨X, HF, HG, HX, HM⟩ := hc.out.hid; clear hc))
  (try simp only [Exit.inBlock, Exit.then])
  refine bodyPost_ret (results_none rfl _ _ _) rfl ?_
  have hco := Co.ok HM.out HG.out HX.out
  exact ⟨rfl, Lib.hid hco⟩
theorem moveA_at {W0 w : World} {c b n : Nat} {s : Cs} {l : Blocks} (q a : Nat) (ha : a < 65536) (h : Hid (Co W0 w c b s l (n + 1))) :
    Calls Tryz.prog 213 #[.pointer (some ⟨c, 0, none⟩), .int .i64 (q : Int), .int .u16 (a : Int)] w fun e w' => e = .returned (.tuple #[]) ∧ Hid (Co W0 w' c b (s.moveA q a) l n) := by
  unfold Cs.moveA
  by_cases hq : q = 0
  · subst hq; rw [if_pos rfl]; exact moveA_z a ha h
  · rw [if_neg hq]; exact moveA_o q a hq ha h
set_option maxRecDepth 100000 in
set_option maxHeartbeats 400000 in
theorem movePair_z {W0 w : World} {c b n : Nat} {s : Cs} {l : Blocks} (i : Int) (h : Hid (Co W0 w c b s l (n + 4))) :
    Calls Tryz.prog 135 #[.pointer (some ⟨c, 0, none⟩), .int .i64 0, .int .i64 i] w fun e w' => e = .returned (.tuple #[]) ∧ Hid (Co W0 w' c b ((s.nextNum.setWZ (up1 s.nextNumV)).setNum s.nextNumV (s.pair i)) l n) := by
  obtain ⟨hf, hg, X, hX, hO⟩ := h.out.out
  have HF := Lib.hid hf
  have HF0 := Lib.hid hf
  have HG := Lib.hid hg
  have HX := Lib.hid hX
  have HM := Lib.hid hO
  have N1 : s.nextNumV < 65536 := Cs.numV_lt hf _
  have p1 : (s.nextNum.setWZ (up1 s.nextNumV)).pair i < 65536 := s.r.pair_lt hf.r _
  have e1 : IntKind.u16.wrap ((s.nextNumV : Int) + 1) = ((up1 s.nextNumV : Nat) : Int) := by generalize s.nextNumV = k; unfold up1; show ((k : Int) + 1) % 65536 = _; omega
  clear h hf hg hX hO
  go_enter Tryz.func135, Tryz.ntmps135
  go_wp2_with (first
    | ((with_reducible apply cgY HM); exact cgS) | ((with_reducible apply cpY HM); exact cpS; clear HM; intro w' HM) | ((with_reducible apply crY HM); exact crS) | ((with_reducible apply clY HM); exact clS; clear HM; intro w' HM)
    | (go_at_call 153; have hco := Lib.hid (Co.ok HM.out HG.out HX.out); (with_reducible refine (nextNumber_at hco).mono ?_); clear hco; rintro e w' ⟨rfl, hc⟩; clear HM HF HG HX; obtain ⟨X, HF, HG, HX, HM⟩ := hc.out.hid; clear hc)
    | (go_at_call 83; (with_reducible refine (cpair_q .z HM (Cs.setWZ_fits HF.out (up1_lt _)) _).mono ?_); rintro e w' ⟨rfl, hb⟩; replace HM := Lib.hid (HM.out.call hb); clear hb)
    | (go_at_call 194; have hco := Lib.hid (Co.ok HM.out HG.out HX.out); (with_reducible refine (setNumber_at _ _ N1 p1 hco).mono ?_); clear hco; rintro e w' ⟨rfl, hc⟩; clear HM HF HG HX; obtain ⟨X, HF, HG, HX, HM⟩ := hc.out.hid; clear hc))
  go_end0
  have hco := Co.ok HM.out HG.out HX.out
  exact ⟨rfl, Lib.hid hco⟩
set_option maxRecDepth 100000 in
set_option maxHeartbeats 400000 in
theorem movePair_o {W0 w : World} {c b n : Nat} {s : Cs} {l : Blocks} (q : Nat) (hq : ¬ q = 0) (i : Int) (h : Hid (Co W0 w c b s l (n + 4))) :
    Calls Tryz.prog 135 #[.pointer (some ⟨c, 0, none⟩), .int .i64 (q : Int), .int .i64 i] w fun e w' => e = .returned (.tuple #[]) ∧ Hid (Co W0 w' c b (((s.nextNum.setWZ (up1 s.nextNumV)).num s.nextNumV).setPair i (s.numV s.nextNumV)) l n) := by
  obtain ⟨hf, hg, X, hX, hO⟩ := h.out.out
  have HF := Lib.hid hf
  have HF0 := Lib.hid hf
  have HG := Lib.hid hg
  have HX := Lib.hid hX
  have HM := Lib.hid hO
  have N1 : s.nextNumV < 65536 := Cs.numV_lt hf _
  have N2 : (s.nextNum.setWZ (up1 s.nextNumV)).numV s.nextNumV < 65536 := Cs.numV_lt (s := s) hf _
  have q1 : ((q : Int) == 0) = false := by simp; omega
  have e1 : IntKind.u16.wrap ((s.nextNumV : Int) + 1) = ((up1 s.nextNumV : Nat) : Int) := by generalize s.nextNumV = k; unfold up1; show ((k : Int) + 1) % 65536 = _; omega
  clear h hf hg hX hO
  go_enter Tryz.func135, Tryz.ntmps135
  go_wp2_with (first
    | ((with_reducible apply cgY HM); exact cgS) | ((with_reducible apply cpY HM); exact cpS; clear HM; intro w' HM) | ((with_reducible apply crY HM); exact crS) | ((with_reducible apply clY HM); exact clS; clear HM; intro w' HM)
    | (go_at_call 153; have hco := Lib.hid (Co.ok HM.out HG.out HX.out); (with_reducible refine (nextNumber_at hco).mono ?_); clear hco; rintro e w' ⟨rfl, hc⟩; clear HM HF HG HX; obtain ⟨X, HF, HG, HX, HM⟩ := hc.out.hid; clear hc)
    | (go_at_call 95; have hco := Lib.hid (Co.ok HM.out HG.out HX.out); (with_reducible refine (number_at _ N1 hco).mono ?_); clear hco; rintro e w' ⟨rfl, hc⟩; clear HM HF HG HX; obtain ⟨X, HF, HG, HX, HM⟩ := hc.out.hid; clear hc)
    | (go_at_call 152; have hco := Lib.hid (Co.ok HM.out HG.out HX.out); (with_reducible refine (csetPair_at _ _ N2 hco).mono ?_); clear hco; rintro e w' ⟨rfl, hc⟩; clear HM HF HG HX; obtain ⟨X, HF, HG, HX, HM⟩ := hc.out.hid; clear hc))
  go_end0
  have hco := Co.ok HM.out HG.out HX.out
  exact ⟨rfl, Lib.hid hco⟩
theorem movePair_at {W0 w : World} {c b n : Nat} {s : Cs} {l : Blocks} (q : Nat) (i : Int) (h : Hid (Co W0 w c b s l (n + 4))) :
    Calls Tryz.prog 135 #[.pointer (some ⟨c, 0, none⟩), .int .i64 (q : Int), .int .i64 i] w fun e w' => e = .returned (.tuple #[]) ∧ Hid (Co W0 w' c b (s.movePair q i) l n) := by
  unfold Cs.movePair
  by_cases hq : q = 0
  · subst hq; rw [if_pos rfl]; exact movePair_z i h
  · rw [if_neg hq]; exact movePair_o q hq i h
end Go.Proofs.YtljjgakfnajifaaGreatDoor
