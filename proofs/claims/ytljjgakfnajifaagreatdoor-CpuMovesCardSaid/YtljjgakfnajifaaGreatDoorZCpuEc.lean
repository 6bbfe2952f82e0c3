import Derived.Test.YtljjgakfnajifaaGreatDoorZCpuEd
import Derived.Deep.Cut
import Derived.Deep.RegionHeld3
import Derived.Deep.CutRange
namespace Go.Proofs.YtljjgakfnajifaaGreatDoor
open Go.RowKit
set_option maxRecDepth 100000 in
set_option maxHeartbeats 400000 in
theorem carryPair_0 {W0 w : World} {c b n : Nat} {s : Cs} {l : Blocks} (x y z p : Nat) (h : Hid (Co W0 w c b s l (n))) :
    Calls Tryz.prog 134 #[.pointer (some ⟨c, 0, none⟩), .agg #[.int .i64 (x : Int), .int .i64 (y : Int), .int .i64 (z : Int), .int .i64 (p : Int), .int .i64 0]] w fun e w' => e = .returned (.int .i64 15) ∧ Hid (Co W0 w' c b (s.carryPair false (p : Int)) l n) := by
  obtain ⟨hf, hg, X, hX, hO⟩ := h.out.out
  have HF := Lib.hid hf
  have HF0 := Lib.hid hf
  have HG := Lib.hid hg
  have HX := Lib.hid hX
  have HM := Lib.hid hO
  have p1 : s.pair 2 < 65536 := Cs.pair_lt hf _
  have p2 : s.pair (p : Int) < 65536 := Cs.pair_lt hf _
  have f1 : s.r.f < 256 := hf.r.f
  have h3 : wSbcF (s.pair 2) (s.pair (p : Int)) (s.r.f % 2) < 256 := wSbcF_lt _ _ _
  have h4 : wSubV (s.pair 2) (s.pair (p : Int)) (s.r.f % 2) < 65536 := wSubV_lt _ _ _
  have e1 : IntKind.u16.wrap ((s.pair 2 : Int) + 1) = ((up1 (s.pair 2) : Nat) : Int) := by generalize s.pair 2 = k; unfold up1; show ((k : Int) + 1) % 65536 = _; omega
  clear h hf hg hX hO
  have tg1 : Hid True := trivial
  go_enter Tryz.func134, Tryz.ntmps134
  go_upto_region 5 with (first
    | ((with_reducible apply own_cell1 HM); exact rfl; exact rfl; exact dS; exact rfl)
    | ((with_reducible apply cgY HM); exact cgS) | ((with_reducible apply cpY HM); exact cpS; clear HM; intro w' HM) | ((with_reducible apply crY HM); exact crS) | ((with_reducible apply clY HM); exact clS; clear HM; intro w' HM)
    | ((with_reducible apply own_box1 HM); exact rfl; (conv => lhs; whnf); exact rfl; exact rfl; clear tg1 HM; intro w' g1 HM)
    | ((with_reducible apply own_load1 HM); exact rfl; exact rfl; exact tS; exact rfl)
    | (go_at_call 83; (with_reducible refine (cpair_q .z HM HF.out _).mono ?_); rintro e w' ⟨rfl, hb⟩; replace HM := Lib.hid (HM.out.call hb); clear hb))
  (refine own_region HM (by kernel_rfl) (by kernel_rfl) ?_; (try simp only [Act.put, List.setIfInBounds_toArray, List.set_cons_zero, List.set_cons_succ]); repeat ((fail_if_success (with_reducible refine wpQuiet_nil ?_)); first | go_big_quiet_skip | (go_big_quiet_want; first | ((with_reducible apply quiet_get); exact rfl; exact wS; exact sS; exact rfl; go_big_quiet_op; go_big_quiet_on) | ((with_reducible apply quiet_load); exact rfl; (with_reducible exact aggR); exact sS; exact Cs.drop0 _ _; exact Cs.take29 _ _; go_big_quiet_op; go_big_quiet_on) | ((with_reducible apply quiet_load); exact rfl; (first | (with_reducible exact aggParts)); exact sS; exact dS; exact tS; go_big_quiet_op; go_big_quiet_on) | ((with_reducible apply quiet_cell); exact rfl; (first | (with_reducible exact oneInt)); exact sS; exact dS; go_big_quiet_op; go_big_quiet_on) | ((with_reducible apply quiet_call); exact fun w => rfl; (focus (go_simp; all_goals with_reducible rfl)); (intro wq HQ; first | (with_reducible exact cpair_q .z HQ HF.out _) | (with_reducible exact (sbc_at _ _ _ _ _ _ p1 p2 f1 (Lib.hid rfl) (Lib.hid rfl) (Lib.hid rfl) _).mono fun _ _ ⟨he, hw⟩ => ⟨he, hw ▸ Below.refl _ _⟩)); go_big_quiet_op; go_big_quiet_on) | (go_big_quiet_op; go_big_quiet_on) | (go_big_quiet_op; refine ⟨_, fun _ _ => rfl, ?_⟩; go_big_quiet_on))))
  refine wpQuiet_nil ?_
  intro w' HM'
  clear HM; have HM := HM'; clear HM'
  go_wp2_with (first
    | ((with_reducible apply own_cell1 HM); exact rfl; exact rfl; exact dS; exact rfl)
    | ((with_reducible apply cgY HM); exact cgS) | ((with_reducible apply cpY HM); exact cpS; clear HM; intro w' HM) | ((with_reducible apply crY HM); exact crS) | ((with_reducible apply clY HM); exact clS; clear HM; intro w' HM)
    | ((with_reducible apply own_box1 HM); exact rfl; (conv => lhs; whnf); exact rfl; exact rfl; clear tg1 HM; intro w' g1 HM)
    | ((with_reducible apply own_load1 HM); exact rfl; exact rfl; exact tS; exact rfl)
    | (go_at_call 152; have hco := Lib.hid (Co.ok (l := _ :: l) HM.out HG.out HX.out); (with_reducible refine (csetPair_at 2 _ h4 hco).mono ?_); clear hco; rintro e w' ⟨rfl, hc⟩; clear HM HF HG HX; obtain ⟨X, HF, HG, HX, HM⟩ := hc.out.hid1; clear hc))
  go_ret
  have hco := Co.ok (l := _ :: l) HM.out HG.out HX.out
  exact ⟨rfl, Lib.hid hco.drop⟩
set_option maxRecDepth 100000 in
set_option maxHeartbeats 400000 in
theorem carryPair_1 {W0 w : World} {c b n : Nat} {s : Cs} {l : Blocks} (x y z p : Nat) (h : Hid (Co W0 w c b s l (n))) :
    Calls Tryz.prog 134 #[.pointer (some ⟨c, 0, none⟩), .agg #[.int .i64 (x : Int), .int .i64 (y : Int), .int .i64 (z : Int), .int .i64 (p : Int), .int .i64 1]] w fun e w' => e = .returned (.int .i64 15) ∧ Hid (Co W0 w' c b (s.carryPair true (p : Int)) l n) := by
  obtain ⟨hf, hg, X, hX, hO⟩ := h.out.out
  have HF := Lib.hid hf
  have HF0 := Lib.hid hf
  have HG := Lib.hid hg
  have HX := Lib.hid hX
  have HM := Lib.hid hO
  have p1 : s.pair 2 < 65536 := Cs.pair_lt hf _
  have p2 : s.pair (p : Int) < 65536 := Cs.pair_lt hf _
  have f1 : s.r.f < 256 := hf.r.f
  have h3 : wAdcF (s.pair 2) (s.pair (p : Int)) (s.r.f % 2) < 256 := wAdcF_lt _ _ _
  have h4 : wAddV (s.pair 2) (s.pair (p : Int)) (s.r.f % 2) < 65536 := wAddV_lt _ _ _
  have e1 : IntKind.u16.wrap ((s.pair 2 : Int) + 1) = ((up1 (s.pair 2) : Nat) : Int) := by generalize s.pair 2 = k; unfold up1; show ((k : Int) + 1) % 65536 = _; omega
  clear h hf hg hX hO
  have tg1 : Hid True := trivial
  go_enter Tryz.func134, Tryz.ntmps134
  go_upto_region 5 with (first
    | ((with_reducible apply own_cell1 HM); exact rfl; exact rfl; exact dS; exact rfl)
    | ((with_reducible apply cgY HM); exact cgS) | ((with_reducible apply cpY HM); exact cpS; clear HM; intro w' HM) | ((with_reducible apply crY HM); exact crS) | ((with_reducible apply clY HM); exact clS; clear HM; intro w' HM)
    | ((with_reducible apply own_box1 HM); exact rfl; (conv => lhs; whnf); exact rfl; exact rfl; clear tg1 HM; intro w' g1 HM)
    | ((with_reducible apply own_load1 HM); exact rfl; exact rfl; exact tS; exact rfl)
    | (go_at_call 83; (with_reducible refine (cpair_q .z HM HF.out _).mono ?_); rintro e w' ⟨rfl, hb⟩; replace HM := Lib.hid (HM.out.call hb); clear hb))
  (refine own_region HM (by kernel_rfl) (by kernel_rfl) ?_; (try simp only [Act.put, List.setIfInBounds_toArray, List.set_cons_zero, List.set_cons_succ]); repeat ((fail_if_success (with_reducible refine wpQuiet_nil ?_)); first | go_big_quiet_skip | (go_big_quiet_want; first | ((with_reducible apply quiet_get); exact rfl; exact wS; exact sS; exact rfl; go_big_quiet_op; go_big_quiet_on) | ((with_reducible apply quiet_load); exact rfl; (with_reducible exact aggR); exact sS; exact Cs.drop0 _ _; exact Cs.take29 _ _; go_big_quiet_op; go_big_quiet_on) | ((with_reducible apply quiet_load); exact rfl; (first | (with_reducible exact aggParts)); exact sS; exact dS; exact tS; go_big_quiet_op; go_big_quiet_on) | ((with_reducible apply quiet_cell); exact rfl; (first | (with_reducible exact oneInt)); exact sS; exact dS; go_big_quiet_op; go_big_quiet_on) | ((with_reducible apply quiet_call); exact fun w => rfl; (focus (go_simp; all_goals with_reducible rfl)); (intro wq HQ; first | (with_reducible exact cpair_q .z HQ HF.out _) | (with_reducible exact (adc_at _ _ _ _ _ _ p1 p2 f1 (Lib.hid rfl) (Lib.hid rfl) (Lib.hid rfl) _).mono fun _ _ ⟨he, hw⟩ => ⟨he, hw ▸ Below.refl _ _⟩)); go_big_quiet_op; go_big_quiet_on) | (go_big_quiet_op; go_big_quiet_on) | (go_big_quiet_op; refine ⟨_, fun _ _ => rfl, ?_⟩; go_big_quiet_on))))
  refine wpQuiet_nil ?_
  intro w' HM'
  clear HM; have HM := HM'; clear HM'
  go_wp2_with (first
    | ((with_reducible apply own_cell1 HM); exact rfl; exact rfl; exact dS; exact rfl)
    | ((with_reducible apply cgY HM); exact cgS) | ((with_reducible apply cpY HM); exact cpS; clear HM; intro w' HM) | ((with_reducible apply crY HM); exact crS) | ((with_reducible apply clY HM); exact clS; clear HM; intro w' HM)
    | ((with_reducible apply own_box1 HM); exact rfl; (conv => lhs; whnf); exact rfl; exact rfl; clear tg1 HM; intro w' g1 HM)
    | ((with_reducible apply own_load1 HM); exact rfl; exact rfl; exact tS; exact rfl)
    | (go_at_call 152; have hco := Lib.hid (Co.ok (l := _ :: l) HM.out HG.out HX.out); (with_reducible refine (csetPair_at 2 _ h4 hco).mono ?_); clear hco; rintro e w' ⟨rfl, hc⟩; clear HM HF HG HX; obtain ⟨X, HF, HG, HX, HM⟩ := hc.out.hid1; clear hc))
  go_ret
  have hco := Co.ok (l := _ :: l) HM.out HG.out HX.out
  exact ⟨rfl, Lib.hid hco.drop⟩
set_option maxRecDepth 100000 in
set_option maxHeartbeats 400000 in
theorem shift_at {W0 w : World} {c b n : Nat} {s : Cs} {l : Blocks} (i : Int) (k : Nat) (hk : k < 256) (h : Hid (Co W0 w c b s l (n))) :
    Calls Tryz.prog 233 #[.pointer (some ⟨c, 0, none⟩), .int .i64 i, .int .u8 (k : Int)] w fun e w' => e = .returned (.tuple #[]) ∧ Hid (Co W0 w' c b (s.shift i k) l n) := by
  obtain ⟨hf, hg, X, hX, hO⟩ := h.out.out
  have HF := Lib.hid hf
  have HF0 := Lib.hid hf
  have HG := Lib.hid hg
  have HX := Lib.hid hX
  have HM := Lib.hid hO
  have p1 : s.pair i < 65536 := Cs.pair_lt hf _
  clear h hf hg hX hO
  go_enter Tryz.func233, Tryz.ntmps233
  go_wp2_with (first
    | ((with_reducible apply cgY HM); exact cgS) | ((with_reducible apply cpY HM); exact cpS; clear HM; intro w' HM) | ((with_reducible apply crY HM); exact crS) | ((with_reducible apply clY HM); exact clS; clear HM; intro w' HM)
    | (go_at_call 83; (with_reducible refine (cpair_q .z HM HF.out _).mono ?_); rintro e w' ⟨rfl, hb⟩; replace HM := Lib.hid (HM.out.call hb); clear hb)
    | (go_at_call 140; (with_reducible refine (move_at _ _ _ p1 hk (Lib.hid rfl) _).mono ?_); rintro e w' ⟨rfl, rfl⟩)
    | (go_at_call 152; have hco := Lib.hid (Co.ok HM.out HG.out HX.out); (with_reducible refine (csetPair_at _ _ (wMove_lt _ _) hco).mono ?_); clear hco; rintro e w' ⟨rfl, hc⟩; clear HM HF HG HX; obtain ⟨X, HF, HG, HX, HM⟩ := hc.out.hid; clear hc))
  go_end0
  have hco := Co.ok HM.out HG.out HX.out
  exact ⟨rfl, Lib.hid hco⟩
set_option maxRecDepth 100000 in
set_option maxHeartbeats 400000 in
theorem less_at {W0 w : World} {c b n : Nat} {s : Cs} {l : Blocks} (h : Hid (Co W0 w c b s l (n))) :
    Calls Tryz.prog 234 #[.pointer (some ⟨c, 0, none⟩)] w fun e w' => e = .returned (.int .u16 (s.lessV : Int)) ∧ Hid (Co W0 w' c b (s.less) l n) := by
  obtain ⟨hf, hg, X, hX, hO⟩ := h.out.out
  have HF := Lib.hid hf
  have HF0 := Lib.hid hf
  have HG := Lib.hid hg
  have HX := Lib.hid hX
  have HM := Lib.hid hO
  have p1 : dn1 (s.pair 0) < 65536 := dn1_lt _
  have e1 : IntKind.u16.wrap ((s.pair 0 : Int) - 1) = ((dn1 (s.pair 0) : Nat) : Int) := by generalize s.pair 0 = k; unfold dn1; show ((k : Int) - 1) % 65536 = _; omega
  clear h hf hg hX hO
  go_enter Tryz.func234, Tryz.ntmps234
  go_wp2_with (first
    | ((with_reducible apply cgY HM); exact cgS) | ((with_reducible apply cpY HM); exact cpS; clear HM; intro w' HM) | ((with_reducible apply crY HM); exact crS) | ((with_reducible apply clY HM); exact clS; clear HM; intro w' HM)
    | (go_at_call 83; (with_reducible refine (cpair_q .z HM HF.out _).mono ?_); rintro e w' ⟨rfl, hb⟩; replace HM := Lib.hid (HM.out.call hb); clear hb)
    | (go_at_call 152; have hco := Lib.hid (Co.ok HM.out HG.out HX.out); (with_reducible refine (csetPair_at _ _ p1 hco).mono ?_); clear hco; rintro e w' ⟨rfl, hc⟩; clear HM HF HG HX; obtain ⟨X, HF, HG, HX, HM⟩ := hc.out.hid; clear hc))
  go_ret
  have hco := Co.ok HM.out HG.out HX.out
  exact ⟨rfl, Lib.hid hco⟩
set_option maxRecDepth 100000 in
set_option maxHeartbeats 400000 in
theorem digits_true {W0 w : World} {c b n : Nat} {s : Cs} {l : Blocks} (h : Hid (Co W0 w c b s l (n + 2))) :
    Calls Tryz.prog 197 #[.pointer (some ⟨c, 0, none⟩), .bool true] w fun e w' => e = .returned (.int .i64 18) ∧ Hid (Co W0 w' c b (s.digits true) l n) := by
  obtain ⟨hf, hg, X, hX, hO⟩ := h.out.out
  have HF := Lib.hid hf
  have HF0 := Lib.hid hf
  have HG := Lib.hid hg
  have HX := Lib.hid hX
  have HM := Lib.hid hO
  obtain ⟨p, hp⟩ : ∃ x, Hid (s.pair 2 = x) := ⟨_, rfl⟩
  have p1 : p < 65536 := by rw [← hp.out]; exact Cs.pair_lt hf _
  obtain ⟨v, hv⟩ : ∃ x, Hid (s.m p = x) := ⟨_, rfl⟩
  have v1 : v < 256 := by rw [← hv.out]; exact hf.m _
  obtain ⟨a, ha⟩ : ∃ x, Hid (s.r.a = x) := ⟨_, rfl⟩
  have a1 : a < 256 := by rw [← ha.out]; exact hf.r.a
  obtain ⟨f, hf'⟩ : ∃ x, Hid (s.r.f = x) := ⟨_, rfl⟩
  have f1 : f < 256 := by rw [← hf'.out]; exact hf.r.f
  obtain ⟨A, hA⟩ : ∃ x, Hid (tDigA true a v = x) := ⟨_, rfl⟩
  obtain ⟨M, hM⟩ : ∃ x, Hid (tDigM true a v = x) := ⟨_, rfl⟩
  obtain ⟨G, hG⟩ : ∃ x, Hid (tDigF true a v f = x) := ⟨_, rfl⟩
  have A1 : A < 256 := by rw [← hA.out]; exact tDigA_lt _ _ _ a1 v1
  have M1 : M < 256 := by rw [← hM.out]; exact tDigM_lt _ _ _ a1 v1
  have G1 : G < 256 := by rw [← hG.out]; exact nByte_lt _ _ _ _ _ _ _ _
  have E : s.digits true = ((((s.rd p).wr p M).setA A).setF G).setWZ (up1 p) := by unfold Cs.digits; rw [hp.out, hv.out, ha.out, hf'.out, hA.out, hM.out, hG.out]
  rw [E]
  have e1 : IntKind.u16.wrap ((p : Int) + 1) = ((up1 p : Nat) : Int) := by unfold up1; show ((p : Int) + 1) % 65536 = _; omega
  clear E h hf hg hX hO
  have hmRead : ∀ w : World, (method 309 28 (.pointer (some ⟨b, 0, none⟩)) "Read").run Tryz.prog w = .ok (260, .pointer (some ⟨b, 0, none⟩)) w := fun _ => by kernel_rfl
  have hmWrite : ∀ w : World, (method 309 28 (.pointer (some ⟨b, 0, none⟩)) "Write").run Tryz.prog w = .ok (261, .pointer (some ⟨b, 0, none⟩)) w := fun _ => by kernel_rfl
  go_enter Tryz.func197, Tryz.ntmps197
  go_upto_region 2 with (first
    | ((with_reducible apply cgY HM); exact cgS) | ((with_reducible apply cpY HM); exact cpS; clear HM; intro w' HM) | ((with_reducible apply crY HM); exact crS) | ((with_reducible apply clY HM); exact clS; clear HM; intro w' HM)
    | (go_at_call 83; (with_reducible refine (cpair_q .z HM HF.out _).mono ?_); rintro e w' ⟨rfl, hb⟩; rw [hp.out]; replace HM := Lib.hid (HM.out.call hb); clear hb))
  have HM' := Lib.hid HM.out.drew
  clear HM; have HM := HM'; clear HM'
  have c29 := HM.out.cells_at .z 29 _ rfl
  have c0 : w'.drew.cell? ⟨c, 0, none⟩ = some (.int .u8 (a : Int)) := (HM.out.cells_at .z 0 _ rfl).trans (congrArg (fun x : Nat => some (Value.int .u8 (x : Int))) ha.out)
  have c1 : w'.drew.cell? ⟨c, 1, none⟩ = some (.int .u8 (f : Int)) := (HM.out.cells_at .z 1 _ rfl).trans (congrArg (fun x : Nat => some (Value.int .u8 (x : Int))) hf'.out)
  go_region_held3 (fun w' => w'.cell? ⟨c, 29, none⟩ = some (.iface 28 (.pointer (some ⟨b, 0, none⟩))) ∧ w'.cell? ⟨c, 0, none⟩ = some (.int .u8 (a : Int)) ∧ w'.cell? ⟨c, 1, none⟩ = some (.int .u8 (f : Int))) (first | assumption | (simp only [*]; trivial) | simp [*]) (first
    | (go_at_call 260; have hco := Lib.hid (Co.ok HM.out HG.out HX.out); (with_reducible refine (rd_at p p1 hco).mono ?_); clear hco; rintro e w' ⟨rfl, hc⟩; clear HM HF HG HX; obtain ⟨X, HF, HG, HX, HM⟩ := hc.out.hid; clear hc; rw [hv.out]; have c29 := HM.out.cells_at .z 29 _ rfl; have c0 : w'.cell? ⟨c, 0, none⟩ = some (.int .u8 (a : Int)) := (HM.out.cells_at .z 0 _ rfl).trans (congrArg (fun x : Nat => some (Value.int .u8 (x : Int))) ha.out); have c1 : w'.cell? ⟨c, 1, none⟩ = some (.int .u8 (f : Int)) := (HM.out.cells_at .z 1 _ rfl).trans (congrArg (fun x : Nat => some (Value.int .u8 (x : Int))) hf'.out))
    | (go_at_call 232; (with_reducible refine (digits_at true a v f A M G a1 v1 f1 hA hM hG _).mono ?_); rintro e w' ⟨rfl, rfl⟩))
  all_goals go_wp2_with (first | ((with_reducible apply cgY HM); exact cgS) | ((with_reducible apply cpY HM); exact cpS; clear HM; intro w' HM) | ((with_reducible apply crY HM); exact crS) | ((with_reducible apply clY HM); exact clS; clear HM; intro w' HM) | (go_at_call 261; have hco := Lib.hid (Co.ok HM.out HG.out HX.out); (with_reducible refine (wr_at _ _ p1 M1 hco).mono ?_); clear hco; rintro e w' ⟨rfl, hc⟩; clear HM HF HG HX; obtain ⟨X, HF, HG, HX, HM⟩ := hc.out.hid; clear hc))
  all_goals go_ret
  all_goals have hco := Co.ok HM.out HG.out HX.out
  all_goals exact ⟨rfl, Lib.hid (hco.less (by omega))⟩
set_option maxRecDepth 100000 in
set_option maxHeartbeats 400000 in
theorem digits_false {W0 w : World} {c b n : Nat} {s : Cs} {l : Blocks} (h : Hid (Co W0 w c b s l (n + 2))) :
    Calls Tryz.prog 197 #[.pointer (some ⟨c, 0, none⟩), .bool false] w fun e w' => e = .returned (.int .i64 18) ∧ Hid (Co W0 w' c b (s.digits false) l n) := by
  obtain ⟨hf, hg, X, hX, hO⟩ := h.out.out
  have HF := Lib.hid hf
  have HF0 := Lib.hid hf
  have HG := Lib.hid hg
  have HX := Lib.hid hX
  have HM := Lib.hid hO
  obtain ⟨p, hp⟩ : ∃ x, Hid (s.pair 2 = x) := ⟨_, rfl⟩
  have p1 : p < 65536 := by rw [← hp.out]; exact Cs.pair_lt hf _
  obtain ⟨v, hv⟩ : ∃ x, Hid (s.m p = x) := ⟨_, rfl⟩
  have v1 : v < 256 := by rw [← hv.out]; exact hf.m _
  obtain ⟨a, ha⟩ : ∃ x, Hid (s.r.a = x) := ⟨_, rfl⟩
  have a1 : a < 256 := by rw [← ha.out]; exact hf.r.a
  obtain ⟨f, hf'⟩ : ∃ x, Hid (s.r.f = x) := ⟨_, rfl⟩
  have f1 : f < 256 := by rw [← hf'.out]; exact hf.r.f
  obtain ⟨A, hA⟩ : ∃ x, Hid (tDigA false a v = x) := ⟨_, rfl⟩
  obtain ⟨M, hM⟩ : ∃ x, Hid (tDigM false a v = x) := ⟨_, rfl⟩
  obtain ⟨G, hG⟩ : ∃ x, Hid (tDigF false a v f = x) := ⟨_, rfl⟩
  have A1 : A < 256 := by rw [← hA.out]; exact tDigA_lt _ _ _ a1 v1
  have M1 : M < 256 := by rw [← hM.out]; exact tDigM_lt _ _ _ a1 v1
  have G1 : G < 256 := by rw [← hG.out]; exact nByte_lt _ _ _ _ _ _ _ _
  have E : s.digits false = ((((s.rd p).wr p M).setA A).setF G).setWZ (up1 p) := by unfold Cs.digits; rw [hp.out, hv.out, ha.out, hf'.out, hA.out, hM.out, hG.out]
  rw [E]
  have e1 : IntKind.u16.wrap ((p : Int) + 1) = ((up1 p : Nat) : Int) := by unfold up1; show ((p : Int) + 1) % 65536 = _; omega
  clear E h hf hg hX hO
  have hmRead : ∀ w : World, (method 309 28 (.pointer (some ⟨b, 0, none⟩)) "Read").run Tryz.prog w = .ok (260, .pointer (some ⟨b, 0, none⟩)) w := fun _ => by kernel_rfl
  have hmWrite : ∀ w : World, (method 309 28 (.pointer (some ⟨b, 0, none⟩)) "Write").run Tryz.prog w = .ok (261, .pointer (some ⟨b, 0, none⟩)) w := fun _ => by kernel_rfl
  go_enter Tryz.func197, Tryz.ntmps197
  go_upto_region 2 with (first
    | ((with_reducible apply cgY HM); exact cgS) | ((with_reducible apply cpY HM); exact cpS; clear HM; intro w' HM) | ((with_reducible apply crY HM); exact crS) | ((with_reducible apply clY HM); exact clS; clear HM; intro w' HM)
    | (go_at_call 83; (with_reducible refine (cpair_q .z HM HF.out _).mono ?_); rintro e w' ⟨rfl, hb⟩; rw [hp.out]; replace HM := Lib.hid (HM.out.call hb); clear hb))
  have HM' := Lib.hid HM.out.drew
  clear HM; have HM := HM'; clear HM'
  have c29 := HM.out.cells_at .z 29 _ rfl
  have c0 : w'.drew.cell? ⟨c, 0, none⟩ = some (.int .u8 (a : Int)) := (HM.out.cells_at .z 0 _ rfl).trans (congrArg (fun x : Nat => some (Value.int .u8 (x : Int))) ha.out)
  have c1 : w'.drew.cell? ⟨c, 1, none⟩ = some (.int .u8 (f : Int)) := (HM.out.cells_at .z 1 _ rfl).trans (congrArg (fun x : Nat => some (Value.int .u8 (x : Int))) hf'.out)
  go_region_held3 (fun w' => w'.cell? ⟨c, 29, none⟩ = some (.iface 28 (.pointer (some ⟨b, 0, none⟩))) ∧ w'.cell? ⟨c, 0, none⟩ = some (.int .u8 (a : Int)) ∧ w'.cell? ⟨c, 1, none⟩ = some (.int .u8 (f : Int))) (first | assumption | (simp only [*]; trivial) | simp [*]) (first
    | (go_at_call 260; have hco := Lib.hid (Co.ok HM.out HG.out HX.out); (with_reducible refine (rd_at p p1 hco).mono ?_); clear hco; rintro e w' ⟨rfl, hc⟩; clear HM HF HG HX; obtain ⟨X, HF, HG, HX, HM⟩ := hc.out.hid; clear hc; rw [hv.out]; have c29 := HM.out.cells_at .z 29 _ rfl; have c0 : w'.cell? ⟨c, 0, none⟩ = some (.int .u8 (a : Int)) := (HM.out.cells_at .z 0 _ rfl).trans (congrArg (fun x : Nat => some (Value.int .u8 (x : Int))) ha.out); have c1 : w'.cell? ⟨c, 1, none⟩ = some (.int .u8 (f : Int)) := (HM.out.cells_at .z 1 _ rfl).trans (congrArg (fun x : Nat => some (Value.int .u8 (x : Int))) hf'.out))
    | (go_at_call 232; (with_reducible refine (digits_at false a v f A M G a1 v1 f1 hA hM hG _).mono ?_); rintro e w' ⟨rfl, rfl⟩))
  all_goals go_wp2_with (first | ((with_reducible apply cgY HM); exact cgS) | ((with_reducible apply cpY HM); exact cpS; clear HM; intro w' HM) | ((with_reducible apply crY HM); exact crS) | ((with_reducible apply clY HM); exact clS; clear HM; intro w' HM) | (go_at_call 261; have hco := Lib.hid (Co.ok HM.out HG.out HX.out); (with_reducible refine (wr_at _ _ p1 M1 hco).mono ?_); clear hco; rintro e w' ⟨rfl, hc⟩; clear HM HF HG HX; obtain ⟨X, HF, HG, HX, HM⟩ := hc.out.hid; clear hc))
  all_goals go_ret
  all_goals have hco := Co.ok HM.out HG.out HX.out
  all_goals exact ⟨rfl, Lib.hid (hco.less (by omega))⟩
end Go.Proofs.YtljjgakfnajifaaGreatDoor
