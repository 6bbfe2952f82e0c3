import Derived.Test.YtljjgakfnajifaaGreatDoorZCpuEc
import Derived.Deep.Cut
import Derived.Deep.RegionHeld3
import Derived.Deep.CutRange
namespace Go.Proofs.YtljjgakfnajifaaGreatDoor
open Go.RowKit
theorem Rg.setPair_af (r : Rg) (n : Int) (v : Nat) (h : n = 5 ∨ n = 6 ∨ n = 2 ∨ n = 1) : (r.setPair n v).a = r.a ∧ (r.setPair n v).f = r.f ∧ (r.setPair n v).b = r.b ∧ (r.setPair n v).c = r.c ∧ (r.setPair n v).wz = r.wz := by
  rcases h with rfl | rfl | rfl | rfl <;> exact ⟨rfl, rfl, rfl, rfl, rfl⟩
theorem Cs.shift_af (s : Cs) (i : Int) (k : Nat) (h : i = 1 ∨ i = 2) : (s.shift i k).r.a = s.r.a ∧ (s.shift i k).r.f = s.r.f ∧ (s.shift i k).r.b = s.r.b ∧ (s.shift i k).r.c = s.r.c ∧ (s.shift i k).r.wz = s.r.wz := by
  refine Rg.setPair_af _ _ _ ?_
  rcases h with rfl | rfl
  · exact .inr (.inr (.inr rfl))
  · show rgIdx s.px = 5 ∨ rgIdx s.px = 6 ∨ rgIdx s.px = 2 ∨ rgIdx s.px = 1
    rcases rgIdx_cases s.px with h | h | h <;> simp [h]
theorem Cs.pair0 (s : Cs) : s.pair 0 = s.r.b * 256 + s.r.c := rfl
theorem Cs.less_af (s : Cs) : s.less.r.a = s.r.a ∧ s.less.r.f = s.r.f := ⟨rfl, rfl⟩
set_option maxRecDepth 100000 in
set_option maxHeartbeats 400000 in
theorem manyLoad_at {W0 w : World} {c b n : Nat} {s : Cs} {l : Blocks} (k : Nat) (hk : k < 256) (h : Hid (Co W0 w c b s l (n + 2))) :
    Calls Tryz.prog 198 #[.pointer (some ⟨c, 0, none⟩), .int .u8 (k : Int)] w fun e w' => e = .returned (.bool s.manyLoadOn) ∧ Hid (Co W0 w' c b (s.manyLoad k) l n) := by
  obtain ⟨hf, hg, X, hX, hO⟩ := h.out.out
  have HF := Lib.hid hf
  have HF0 := Lib.hid hf
  have HG := Lib.hid hg
  have HX := Lib.hid hX
  have HM := Lib.hid hO
  have p2 : s.pair 2 < 65536 := Cs.pair_lt hf _
  obtain ⟨v, hv⟩ : ∃ x, Hid (s.m (s.pair 2) = x) := ⟨_, rfl⟩
  have v1 : v < 256 := by rw [← hv.out]; exact hf.m _
  have p1 : (s.rd (s.pair 2)).pair 1 < 65536 := Cs.pair_lt (s := s) hf _
  obtain ⟨L, hL⟩ : ∃ x, Hid (((((s.rd (s.pair 2)).wr ((s.rd (s.pair 2)).pair 1) v).shift 2 k).shift 1 k).lessV = x) := ⟨_, rfl⟩
  obtain ⟨P, hP⟩ : ∃ x, Hid (decide (L ≠ 0) = x) := ⟨_, rfl⟩
  obtain ⟨R, hR⟩ : ∃ x, Hid (rLoad ((((s.rd (s.pair 2)).wr ((s.rd (s.pair 2)).pair 1) v).shift 2 k).shift 1 k).less.r.a v ((((s.rd (s.pair 2)).wr ((s.rd (s.pair 2)).pair 1) v).shift 2 k).shift 1 k).less.r.f P = x) := ⟨_, rfl⟩
  have R1 : R < 256 := by rw [← hR.out]; exact rLoad_lt _ _ _ _
  have k1 := Cs.shift_af (((s.rd (s.pair 2)).wr ((s.rd (s.pair 2)).pair 1) v).shift 2 k) 1 k (.inl rfl)
  have k2 := Cs.shift_af ((s.rd (s.pair 2)).wr ((s.rd (s.pair 2)).pair 1) v) 2 k (.inr rfl)
  have E1 : ((((s.rd (s.pair 2)).wr ((s.rd (s.pair 2)).pair 1) v).shift 2 k).shift 1 k).lessV = s.lessV := by unfold Cs.lessV; rw [Cs.pair0, Cs.pair0, k1.2.2.1, k1.2.2.2.1, k2.2.2.1, k2.2.2.2.1]
  have E2 : s.manyLoadOn = P := by rw [← hP.out, ← hL.out, E1]; rfl
  have E3 : ((((s.rd (s.pair 2)).wr ((s.rd (s.pair 2)).pair 1) v).shift 2 k).shift 1 k).less.r.a = s.r.a := k1.1.trans k2.1
  have E4 : ((((s.rd (s.pair 2)).wr ((s.rd (s.pair 2)).pair 1) v).shift 2 k).shift 1 k).less.r.f = s.r.f := k1.2.1.trans k2.2.1
  have E : s.manyLoad k = ((((s.rd (s.pair 2)).wr ((s.rd (s.pair 2)).pair 1) v).shift 2 k).shift 1 k).less.setF R := by rw [← hR.out, E3, E4, ← hP.out, ← hL.out, E1, ← hv.out]; rfl
  rw [E, E2]
  have hP2 : Hid (P = true ↔ L ≠ 0) := Lib.hid (by rw [← hP.out]; simp)
  have e1 : ((L : Int) != 0) = P := by rw [← hP.out, Bool.eq_iff_iff]; simp
  clear E E1 E2 E3 E4 k1 k2 h hf hg hX hO
  have hmRead : ∀ w : World, (method 309 28 (.pointer (some ⟨b, 0, none⟩)) "Read").run Tryz.prog w = .ok (260, .pointer (some ⟨b, 0, none⟩)) w := fun _ => by kernel_rfl
  have hmWrite : ∀ w : World, (method 309 28 (.pointer (some ⟨b, 0, none⟩)) "Write").run Tryz.prog w = .ok (261, .pointer (some ⟨b, 0, none⟩)) w := fun _ => by kernel_rfl
  go_enter Tryz.func198, Tryz.ntmps198
  go_upto_region 1 with fail
  (refine own_tail 8 HM (by kernel_rfl) (by kernel_rfl) (by kernel_rfl) ?_; simp only [List.take_succ_cons, List.take_zero, List.drop_succ_cons, List.drop_zero]; (try simp only [Act.put, List.setIfInBounds_toArray, List.set_cons_zero, List.set_cons_succ]); repeat ((fail_if_success (with_reducible refine wpQuiet_nil ?_)); first | go_big_quiet_skip | (go_big_quiet_want; first | ((with_reducible apply quiet_get); exact rfl; exact wS; exact sS; exact rfl; go_big_quiet_op; go_big_quiet_on) | ((with_reducible apply quiet_load); exact rfl; (with_reducible exact aggR); exact sS; exact Cs.drop0 _ _; exact Cs.take29 _ _; go_big_quiet_op; go_big_quiet_on) | ((with_reducible apply quiet_call); exact fun w => rfl; (focus (go_simp; all_goals with_reducible rfl)); (intro wq HQ; first | (with_reducible exact cpair_q .z HQ HF.out _)); go_big_quiet_op; go_big_quiet_on) | (go_big_quiet_op; go_big_quiet_on) | (go_big_quiet_op; refine ⟨_, fun _ _ => rfl, ?_⟩; go_big_quiet_on))))
  refine wpQuiet_nil ?_
  intro w' HM'
  clear HM; have HM := HM'; clear HM'
  go_upto_region 2 with (first
    | ((with_reducible apply cgY HM); exact cgS) | ((with_reducible apply cpY HM); exact cpS; clear HM; intro w' HM) | ((with_reducible apply crY HM); exact crS) | ((with_reducible apply clY HM); exact clS; clear HM; intro w' HM)
    | (go_at_call 260; have hco := Lib.hid (Co.ok HM.out HG.out HX.out); (with_reducible refine (rd_at _ p2 hco).mono ?_); clear hco; rintro e w' ⟨rfl, hc⟩; clear HM HF HG HX; obtain ⟨X, HF, HG, HX, HM⟩ := hc.out.hid; clear hc; rw [hv.out]))
  (refine own_tail 9 HM (by kernel_rfl) (by kernel_rfl) (by kernel_rfl) ?_; simp only [List.take_succ_cons, List.take_zero, List.drop_succ_cons, List.drop_zero]; (try simp only [Act.put, List.setIfInBounds_toArray, List.set_cons_zero, List.set_cons_succ]); repeat ((fail_if_success (with_reducible refine wpQuiet_nil ?_)); first | go_big_quiet_skip | (go_big_quiet_want; first | ((with_reducible apply quiet_get); exact rfl; exact wS; exact sS; exact rfl; go_big_quiet_op; go_big_quiet_on) | ((with_reducible apply quiet_load); exact rfl; (with_reducible exact aggR); exact sS; exact Cs.drop0 _ _; exact Cs.take29 _ _; go_big_quiet_op; go_big_quiet_on) | ((with_reducible apply quiet_call); exact fun w => rfl; (focus (go_simp; all_goals with_reducible rfl)); (intro wq HQ; first | (with_reducible exact cpair_q .z HQ HF.out _)); go_big_quiet_op; go_big_quiet_on) | (go_big_quiet_op; go_big_quiet_on) | (go_big_quiet_op; refine ⟨_, fun _ _ => rfl, ?_⟩; go_big_quiet_on))))
  refine wpQuiet_nil ?_
  intro w' HM'
  clear HM; have HM := HM'; clear HM'
  go_upto_region 6 with (first
    | ((with_reducible apply cgY HM); exact cgS) | ((with_reducible apply cpY HM); exact cpS; clear HM; intro w' HM) | ((with_reducible apply crY HM); exact crS) | ((with_reducible apply clY HM); exact clS; clear HM; intro w' HM)
    | (go_at_call 261; have hco := Lib.hid (Co.ok HM.out HG.out HX.out); (with_reducible refine (wr_at _ _ p1 v1 hco).mono ?_); clear hco; rintro e w' ⟨rfl, hc⟩; clear HM HF HG HX; obtain ⟨X, HF, HG, HX, HM⟩ := hc.out.hid; clear hc)
    | (go_at_call 233; have hco := Lib.hid (Co.ok HM.out HG.out HX.out); (with_reducible refine (shift_at 2 k hk hco).mono ?_); clear hco; rintro e w' ⟨rfl, hc⟩; clear HM HF HG HX; obtain ⟨X, HF, HG, HX, HM⟩ := hc.out.hid; clear hc)
    | (go_at_call 233; have hco := Lib.hid (Co.ok HM.out HG.out HX.out); (with_reducible refine (shift_at 1 k hk hco).mono ?_); clear hco; rintro e w' ⟨rfl, hc⟩; clear HM HF HG HX; obtain ⟨X, HF, HG, HX, HM⟩ := hc.out.hid; clear hc)
    | (go_at_call 234; have hco := Lib.hid (Co.ok HM.out HG.out HX.out); (with_reducible refine (less_at hco).mono ?_); clear hco; rintro e w' ⟨rfl, hc⟩; clear HM HF HG HX; obtain ⟨X, HF, HG, HX, HM⟩ := hc.out.hid; clear hc; rw [hL.out]))
  (refine own_tail 14 HM (by kernel_rfl) (by kernel_rfl) (by kernel_rfl) ?_; simp only [List.take_succ_cons, List.take_zero, List.drop_succ_cons, List.drop_zero]; (try simp only [Act.put, List.setIfInBounds_toArray, List.set_cons_zero, List.set_cons_succ]); repeat ((fail_if_success (with_reducible refine wpQuiet_nil ?_)); first | go_big_quiet_skip | (go_big_quiet_want; first | ((with_reducible apply quiet_get); exact rfl; exact wS; exact sS; exact rfl; go_big_quiet_op; go_big_quiet_on) | ((with_reducible apply quiet_load); exact rfl; (with_reducible exact aggR); exact sS; exact Cs.drop0 _ _; exact Cs.take29 _ _; go_big_quiet_op; go_big_quiet_on) | ((with_reducible apply quiet_call); exact fun w => rfl; (focus (go_simp; all_goals with_reducible rfl)); (intro wq HQ; first | (with_reducible exact (load_at _ v _ L R P HF.out.r.f hP2 hR _).mono fun _ _ ⟨he, hw⟩ => ⟨he, hw ▸ Below.refl _ _⟩)); go_big_quiet_op; go_big_quiet_on) | (go_big_quiet_op; go_big_quiet_on) | (go_big_quiet_op; refine ⟨_, fun _ _ => rfl, ?_⟩; go_big_quiet_on))))
  refine wpQuiet_nil ?_
  intro w' HM'
  clear HM; have HM := HM'; clear HM'
  go_wp2_with (first
    | ((with_reducible apply cgY HM); exact cgS) | ((with_reducible apply cpY HM); exact cpS; clear HM; intro w' HM) | ((with_reducible apply crY HM); exact crS) | ((with_reducible apply clY HM); exact clS; clear HM; intro w' HM))
  go_ret
  have hco := Co.ok HM.out HG.out HX.out
  exact ⟨rfl, Lib.hid hco⟩
end Go.Proofs.YtljjgakfnajifaaGreatDoor
