import Derived.Test.YtljjgakfnajifaaGreatDoorZCpuB1
import Derived.Deep.Cut
import Derived.Deep.CutRange
namespace Go.Proofs.YtljjgakfnajifaaGreatDoor
open Go.RowKit
theorem Cs.point_f (s : Cs) : s.point.r.f = s.r.f := by unfold Cs.point; split <;> rfl
set_option maxRecDepth 100000 in
set_option maxHeartbeats 1600000 in
theorem count_reg_Inc {W0 w : World} {c b n : Nat} {s : Cs} {l : Blocks} (i : Int) (hi : ¬ i = 6) (h : Hid (Co W0 w c b s l (n + 1))) :
    Calls Tryz.prog 157 #[.pointer (some ⟨c, 0, none⟩), .int .i64 i, Value.func (Fn.func 158) #[] #[]] w fun e w' => e = .returned (.int .i64 4) ∧ Hid (Co W0 w' c b (s.count i false) l n) := by
  obtain ⟨hf, hg, X, hX, hO⟩ := h.out.out
  have HF := Lib.hid hf
  have HF0 := Lib.hid hf
  have HG := Lib.hid hg
  have HX := Lib.hid hX
  have HM := Lib.hid hO
  have i1 : (i != 6) = true := by simp; exact hi
  have v1 : s.one i < 256 := Cs.one_lt hf _
  have f1 : s.r.f < 256 := hf.r.f
  obtain ⟨A, hA⟩ : ∃ x, Hid (nAddV (s.one i) 1 0 = x) := ⟨_, rfl⟩
  obtain ⟨B, hB⟩ : ∃ x, Hid (nKeep (nAddF (s.one i) 1 0) s.r.f = x) := ⟨_, rfl⟩
  have A1 : A < 256 := by rw [← hA.out]; exact nAddV_lt _ _ _
  have B1 : B < 256 := by rw [← hB.out]; exact nKeep_lt _ _
  have E : s.count i false = (s.setOne i A).setF B := by rw [← hA.out, ← hB.out]; exact if_neg hi
  rw [E]
  clear E hi h hf hg hX hO
  go_enter Tryz.func157, Tryz.ntmps157
  go_upto_region 2 with fail
  (refine own_region HM (by kernel_rfl) (by kernel_rfl) ?_; (try simp only [Act.put, List.setIfInBounds_toArray, List.set_cons_zero, List.set_cons_succ]); repeat ((fail_if_success (with_reducible refine wpQuiet_nil ?_)); first | go_big_quiet_skip | (go_big_quiet_want; first | ((with_reducible apply quiet_get); exact rfl; exact wS; exact sS; exact rfl; go_big_quiet_op; go_big_quiet_on) | ((with_reducible apply quiet_load); exact rfl; (with_reducible exact aggR); exact sS; exact Cs.drop0 _ _; exact Cs.take29 _ _; go_big_quiet_op; go_big_quiet_on) | ((with_reducible apply quiet_call); exact fun w => rfl; (focus (go_simp; all_goals with_reducible rfl)); (intro wq HQ; first | (with_reducible exact cone_q .z HQ HF.out _) | (with_reducible exact (inc_at (s.one i) s.r.f A B v1 f1 hA hB _).mono fun _ _ ⟨he, hw⟩ => ⟨he, hw ▸ Below.refl _ _⟩)); go_big_quiet_op; go_big_quiet_on) | (go_big_quiet_op; go_big_quiet_on) | (go_big_quiet_op; refine ⟨_, fun _ _ => rfl, ?_⟩; go_big_quiet_on))))
  refine wpQuiet_nil ?_
  intro w' HM'
  clear HM; have HM := HM'; clear HM'
  go_wp2_with (first
    | ((with_reducible apply cgY HM); exact cgS) | ((with_reducible apply cpY HM); exact cpS; clear HM; intro w' HM) | ((with_reducible apply crY HM); exact crS) | ((with_reducible apply clY HM); exact clS; clear HM; intro w' HM)
    | (go_at_call 86; have hco := Lib.hid (Co.ok HM.out HG.out HX.out); (with_reducible refine (csetOne_at _ _ A1 hco).mono ?_); clear hco; rintro e w' ⟨rfl, hc⟩; clear HM HF HG HX; obtain ⟨X, HF, HG, HX, HM⟩ := hc.out.hid; clear hc))
  go_ret
  have hco := Co.ok HM.out HG.out HX.out
  exact ⟨rfl, Lib.hid (hco.less (by omega))⟩
set_option maxRecDepth 100000 in
set_option maxHeartbeats 1600000 in
theorem count_mem_near_Inc {W0 w : World} {c b n : Nat} {s : Cs} {l : Blocks} (hp : s.px = 0) (h : Hid (Co W0 w c b s l (n + 3))) :
    Calls Tryz.prog 157 #[.pointer (some ⟨c, 0, none⟩), .int .i64 6, Value.func (Fn.func 158) #[] #[]] w fun e w' => e = .returned (.int .i64 11) ∧ Hid (Co W0 w' c b (s.count 6 false) l n) := by
  obtain ⟨hf, hg, X, hX, hO⟩ := h.out.out
  have HF := Lib.hid hf
  have HF0 := Lib.hid hf
  have HG := Lib.hid hg
  have HX := Lib.hid hX
  have HM := Lib.hid hO
  have P1 : s.pointV < 65536 := Cs.pointV_lt hf
  have v1 : s.point.m s.pointV < 256 := by rw [Cs.point_m]; exact hf.m _
  have f1 : s.r.f < 256 := hf.r.f
  have f2 : s.point.r.f = s.r.f := Cs.point_f s
  obtain ⟨A, hA⟩ : ∃ x, Hid (nAddV (s.m s.pointV) 1 0 = x) := ⟨_, rfl⟩
  obtain ⟨B, hB⟩ : ∃ x, Hid (nKeep (nAddF (s.m s.pointV) 1 0) s.r.f = x) := ⟨_, rfl⟩
  have A1 : A < 256 := by rw [← hA.out]; exact nAddV_lt _ _ _
  have B1 : B < 256 := by rw [← hB.out]; exact nKeep_lt _ _
  have E : s.count 6 false = ((s.point.rd s.pointV).wr s.pointV A).setF B := by rw [← hA.out, ← hB.out]; rfl
  rw [E]
  have hA : Hid (nAddV (s.point.m s.pointV) 1 0 = A) := by rw [Cs.point_m]; exact hA
  have hB : Hid (nKeep (nAddF (s.point.m s.pointV) 1 0) s.point.r.f = B) := by rw [Cs.point_m, f2]; exact hB
  rw [← f2] at f1
  have hp' : ((s.px : Int) == 0) = true := by simp; omega
  have hpp : s.point.px = 0 := by rw [Cs.point_px]; exact hp
  clear E f2 h hf hg hX hO
  have hmRead : ∀ w : World, (method 309 28 (.pointer (some ⟨b, 0, none⟩)) "Read").run Tryz.prog w = .ok (260, .pointer (some ⟨b, 0, none⟩)) w := fun _ => by kernel_rfl
  have hmWrite : ∀ w : World, (method 309 28 (.pointer (some ⟨b, 0, none⟩)) "Write").run Tryz.prog w = .ok (261, .pointer (some ⟨b, 0, none⟩)) w := fun _ => by kernel_rfl
  go_enter Tryz.func157, Tryz.ntmps157
  go_upto_region 7 with (first
    | ((with_reducible apply cgY HM); exact cgS) | ((with_reducible apply cpY HM); exact cpS; clear HM; intro w' HM) | ((with_reducible apply crY HM); exact crS) | ((with_reducible apply clY HM); exact clS; clear HM; intro w' HM)
    | (go_at_call 81; have hco := Lib.hid (Co.ok HM.out HG.out HX.out); (with_reducible refine (pointed_at hco).mono ?_); clear hco; rintro e w' ⟨rfl, hc⟩; clear HM HF HG HX; obtain ⟨X, HF, HG, HX, HM⟩ := hc.out.hid; clear hc))
  have HM' := Lib.hid HM.out.drew
  clear HM; have HM := HM'; clear HM'
  have c29 := HM.out.cells_at .z 29 _ rfl
  have c1 := HM.out.cells_at .z 1 _ rfl
  go_region_with (first
    | (go_at_call 260; have hco := Lib.hid (Co.ok HM.out HG.out HX.out); (with_reducible refine (rd_at _ P1 hco).mono ?_); clear hco; rintro e w' ⟨rfl, hc⟩; clear HM HF HG HX; obtain ⟨X, HF, HG, HX, HM⟩ := hc.out.hid; clear hc; have c29 := HM.out.cells_at .z 29 _ rfl; have c1 := HM.out.cells_at .z 1 _ rfl)
    | (go_at_call 158; (with_reducible refine (inc_at (s.point.m s.pointV) s.point.r.f A B v1 f1 hA hB _).mono ?_); rintro e w' ⟨rfl, rfl⟩))
  all_goals go_wp2_with (first | ((with_reducible apply cgY HM); exact cgS) | ((with_reducible apply cpY HM); exact cpS; clear HM; intro w' HM) | ((with_reducible apply crY HM); exact crS) | ((with_reducible apply clY HM); exact clS; clear HM; intro w' HM) | (go_at_call 261; have hco := Lib.hid (Co.ok HM.out HG.out HX.out); (with_reducible refine (wr_at _ _ P1 A1 hco).mono ?_); clear hco; rintro e w' ⟨rfl, hc⟩; clear HM HF HG HX; obtain ⟨X, HF, HG, HX, HM⟩ := hc.out.hid; clear hc) | (go_at_call 163; (with_reducible refine (either_near (s := ((s.point.rd s.pointV).wr s.pointV A).setF B) .z HM (Cs.setF_fits HF.out B1) hpp 11 19).mono ?_); rintro e w' ⟨rfl, hb⟩; replace HM := Lib.hid (HM.out.call hb); clear hb))
  all_goals go_ret
  all_goals have hco := Co.ok HM.out HG.out HX.out
  all_goals exact ⟨rfl, Lib.hid (hco.less (by omega))⟩
set_option maxRecDepth 100000 in
set_option maxHeartbeats 1600000 in
theorem count_mem_far_Inc {W0 w : World} {c b n : Nat} {s : Cs} {l : Blocks} (hp : ¬ s.px = 0) (h : Hid (Co W0 w c b s l (n + 3))) :
    Calls Tryz.prog 157 #[.pointer (some ⟨c, 0, none⟩), .int .i64 6, Value.func (Fn.func 158) #[] #[]] w fun e w' => e = .returned (.int .i64 19) ∧ Hid (Co W0 w' c b (s.count 6 false) l n) := by
  obtain ⟨hf, hg, X, hX, hO⟩ := h.out.out
  have HF := Lib.hid hf
  have HF0 := Lib.hid hf
  have HG := Lib.hid hg
  have HX := Lib.hid hX
  have HM := Lib.hid hO
  have P1 : s.pointV < 65536 := Cs.pointV_lt hf
  have v1 : s.point.m s.pointV < 256 := by rw [Cs.point_m]; exact hf.m _
  have f1 : s.r.f < 256 := hf.r.f
  have f2 : s.point.r.f = s.r.f := Cs.point_f s
  obtain ⟨A, hA⟩ : ∃ x, Hid (nAddV (s.m s.pointV) 1 0 = x) := ⟨_, rfl⟩
  obtain ⟨B, hB⟩ : ∃ x, Hid (nKeep (nAddF (s.m s.pointV) 1 0) s.r.f = x) := ⟨_, rfl⟩
  have A1 : A < 256 := by rw [← hA.out]; exact nAddV_lt _ _ _
  have B1 : B < 256 := by rw [← hB.out]; exact nKeep_lt _ _
  have E : s.count 6 false = ((s.point.rd s.pointV).wr s.pointV A).setF B := by rw [← hA.out, ← hB.out]; rfl
  rw [E]
  have hA : Hid (nAddV (s.point.m s.pointV) 1 0 = A) := by rw [Cs.point_m]; exact hA
  have hB : Hid (nKeep (nAddF (s.point.m s.pointV) 1 0) s.point.r.f = B) := by rw [Cs.point_m, f2]; exact hB
  rw [← f2] at f1
  have hp' : ((s.px : Int) == 0) = false := by simp; omega
  have hpp : ¬ s.point.px = 0 := by rw [Cs.point_px]; exact hp
  clear E f2 h hf hg hX hO
  have hmRead : ∀ w : World, (method 309 28 (.pointer (some ⟨b, 0, none⟩)) "Read").run Tryz.prog w = .ok (260, .pointer (some ⟨b, 0, none⟩)) w := fun _ => by kernel_rfl
  have hmWrite : ∀ w : World, (method 309 28 (.pointer (some ⟨b, 0, none⟩)) "Write").run Tryz.prog w = .ok (261, .pointer (some ⟨b, 0, none⟩)) w := fun _ => by kernel_rfl
  go_enter Tryz.func157, Tryz.ntmps157
  go_upto_region 7 with (first
    | ((with_reducible apply cgY HM); exact cgS) | ((with_reducible apply cpY HM); exact cpS; clear HM; intro w' HM) | ((with_reducible apply crY HM); exact crS) | ((with_reducible apply clY HM); exact clS; clear HM; intro w' HM)
    | (go_at_call 81; have hco := Lib.hid (Co.ok HM.out HG.out HX.out); (with_reducible refine (pointed_at hco).mono ?_); clear hco; rintro e w' ⟨rfl, hc⟩; clear HM HF HG HX; obtain ⟨X, HF, HG, HX, HM⟩ := hc.out.hid; clear hc))
  have HM' := Lib.hid HM.out.drew
  clear HM; have HM := HM'; clear HM'
  have c29 := HM.out.cells_at .z 29 _ rfl
  have c1 := HM.out.cells_at .z 1 _ rfl
  go_region_with (first
    | (go_at_call 260; have hco := Lib.hid (Co.ok HM.out HG.out HX.out); (with_reducible refine (rd_at _ P1 hco).mono ?_); clear hco; rintro e w' ⟨rfl, hc⟩; clear HM HF HG HX; obtain ⟨X, HF, HG, HX, HM⟩ := hc.out.hid; clear hc; have c29 := HM.out.cells_at .z 29 _ rfl; have c1 := HM.out.cells_at .z 1 _ rfl)
    | (go_at_call 158; (with_reducible refine (inc_at (s.point.m s.pointV) s.point.r.f A B v1 f1 hA hB _).mono ?_); rintro e w' ⟨rfl, rfl⟩))
  all_goals go_wp2_with (first | ((with_reducible apply cgY HM); exact cgS) | ((with_reducible apply cpY HM); exact cpS; clear HM; intro w' HM) | ((with_reducible apply crY HM); exact crS) | ((with_reducible apply clY HM); exact clS; clear HM; intro w' HM) | (go_at_call 261; have hco := Lib.hid (Co.ok HM.out HG.out HX.out); (with_reducible refine (wr_at _ _ P1 A1 hco).mono ?_); clear hco; rintro e w' ⟨rfl, hc⟩; clear HM HF HG HX; obtain ⟨X, HF, HG, HX, HM⟩ := hc.out.hid; clear hc) | (go_at_call 163; (with_reducible refine (either_far (s := ((s.point.rd s.pointV).wr s.pointV A).setF B) .z HM (Cs.setF_fits HF.out B1) hpp 11 19).mono ?_); rintro e w' ⟨rfl, hb⟩; replace HM := Lib.hid (HM.out.call hb); clear hb))
  all_goals go_ret
  all_goals have hco := Co.ok HM.out HG.out HX.out
  all_goals exact ⟨rfl, Lib.hid (hco.less (by omega))⟩
end Go.Proofs.YtljjgakfnajifaaGreatDoor
