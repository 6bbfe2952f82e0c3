import Derived.Test.YtgdeeiimkhjfiaaGreatDoorV11
set_option maxRecDepth 100000
set_option maxHeartbeats 6400000
namespace Go.Proofs.YtgdeeiimkhjfiaaGreatDoor
open Go.RowKit
section
variable {W0 w : World} {x b tq n c : Nat} {s : Cs} {ix : Bool} {pg : Int} {l : Zj}
theorem ZhO (y : Nat) (hy : y = 5) (h : Hid (Co W0 w c b s l (n + 4))) :
  CX 158 #[.pointer (some ⟨c, 0, none⟩), .int .i64 (y : Int)] w (.int .i64 4) fun w' => Hid (Co W0 w' c b (s.swapDE) l n) := by
 obtain ⟨X, hf, HF, HG, HX, HM⟩ := h.out.hif
 have HF0 := HF
 have hg := HG.out
 have hX := HX.out
 have hO := HM.out
 have y0 : ((y : Int) == 0) = false := by subst hy; rfl
 have y1 : ((y : Int) == 1) = false := by subst hy; rfl
 have y2 : ((y : Int) == 2) = false := by subst hy; rfl
 have y3 : ((y : Int) == 3) = false := by subst hy; rfl
 have y4 : ((y : Int) == 4) = false := by subst hy; rfl
 have y5 : ((y : Int) == 5) = true := by subst hy; rfl
 have y6 : ((y : Int) == 6) = false := by subst hy; rfl
 have y7 : ((y : Int) == 7) = false := by subst hy; rfl
 clear hy h hf hg hX hO
 go_enter Tryz.func158, Tryz.ntmps158
 go_upto_region 12 with fail
 have c4 := HM.out.cells_at .z 4 _ rfl
 have c5 := HM.out.cells_at .z 5 _ rfl
 have c6 := HM.out.cells_at .z 6 _ rfl
 have c7 := HM.out.cells_at .z 7 _ rfl
 have fr4 := (HM.out.at_ .z).free 4
 have fr5 := (HM.out.at_ .z).free 5
 have fr6 := (HM.out.at_ .z).free 6
 have fr7 := (HM.out.at_ .z).free 7
 have HM2 := Zb ((((HM.out.of_cell 4 (v := .int .u8 (s.r.h : Int)) .z).of_cell 5 (v := .int .u8 (s.r.l : Int)) .z).of_cell 6 (v := .int .u8 (s.r.d : Int)) .z).of_cell 7 (v := .int .u8 (s.r.e : Int)) .z).drew
 clear HM
 go_region
 all_goals go_wp2_with fail
 all_goals go_ret
 all_goals exact ⟨rfl, Zb ((Co.made (s := s.swapDE) HM2.out HG.out HX.out ⟨{ HF.out.r with d := HF.out.r.h, e := HF.out.r.l, h := HF.out.r.d, l := HF.out.r.e }, HF.out.px, HF.out.m⟩).less (by omega))⟩
theorem ZhP (y : Nat) (hy : y = 1) (h : Hid (Co W0 w c b s l (n + 4))) :
  CX 158 #[.pointer (some ⟨c, 0, none⟩), .int .i64 (y : Int)] w (.int .i64 4) fun w' => Hid (Co W0 w' c b (((s.setQ1 true).setQ2 true).setDL true) l n) := by
 obtain ⟨X, hf, HF, HG, HX, HM⟩ := h.out.hif
 have HF0 := HF
 have hg := HG.out
 have hX := HX.out
 have hO := HM.out
 have y0 : ((y : Int) == 0) = false := by subst hy; rfl
 have y1 : ((y : Int) == 1) = true := by subst hy; rfl
 have y2 : ((y : Int) == 2) = false := by subst hy; rfl
 have y3 : ((y : Int) == 3) = false := by subst hy; rfl
 have y4 : ((y : Int) == 4) = false := by subst hy; rfl
 have y5 : ((y : Int) == 5) = false := by subst hy; rfl
 have y6 : ((y : Int) == 6) = false := by subst hy; rfl
 have y7 : ((y : Int) == 7) = false := by subst hy; rfl
 clear hy h hf hg hX hO
 go_enter Tryz.func158, Tryz.ntmps158
 go_wp2_with (first | refine cG ?_ | (refine cP ?_; clear HM; intro w' HM))
 go_ret
 have hco := Co.ok HM.out HG.out HX.out
 exact ⟨rfl, Zb (hco.less (by omega))⟩
theorem ZeQ (y : Nat) (hy : y < 8) (h : Hid (Co W0 w c b s l (n + 4))) :
  CX 158 #[.pointer (some ⟨c, 0, none⟩), .int .i64 (y : Int)] w (.int .i64 ((Cs.mixedC y : Nat) : Int)) fun w' => Hid (Co W0 w' c b (s.mixed y) l n) := by
 by_cases h0 : y = 0
 ·subst h0
  rw [show ((0 : Nat) : Int) = 0 from rfl]
  have e2 : s.mixed 0 = s.jumpTo true := if_pos (by omega)
  have e3 : Cs.mixedC 0 = 10 := if_pos (by omega)
  rw [e2, e3]; exact ZhI h
 by_cases h2 : y = 2
 ·subst h2
  rw [show ((2 : Nat) : Int) = 2 from rfl]
  have e2 : s.mixed 2 = s.outNext := (if_neg (by omega)).trans (if_pos (by omega))
  have e3 : Cs.mixedC 2 = 11 := (if_neg (by omega)).trans (if_pos (by omega))
  rw [e2, e3]; exact ZhJ h
 by_cases h3 : y = 3
 ·subst h3
  rw [show ((3 : Nat) : Int) = 3 from rfl]
  have e2 : s.mixed 3 = s.inNext := (if_neg (by omega)).trans ((if_neg (by omega)).trans (if_pos (by omega)))
  have e3 : Cs.mixedC 3 = 11 := (if_neg (by omega)).trans ((if_neg (by omega)).trans (if_pos (by omega)))
  rw [e2, e3]; exact ZhK h
 by_cases h4 : y = 4
 ·subst h4
  rw [show ((4 : Nat) : Int) = 4 from rfl]
  have e2 : s.mixed 4 = s.swapTop := (if_neg (by omega)).trans ((if_neg (by omega)).trans ((if_neg (by omega)).trans (if_pos (by omega))))
  have e3 : Cs.mixedC 4 = 19 := (if_neg (by omega)).trans ((if_neg (by omega)).trans ((if_neg (by omega)).trans (if_pos (by omega))))
  rw [e2, e3]; exact ZhL h
 by_cases h5 : y = 5
 ·have e2 : s.mixed y = s.swapDE := (if_neg (by omega)).trans ((if_neg (by omega)).trans ((if_neg (by omega)).trans ((if_neg (by omega)).trans (if_pos (by omega)))))
  have e3 : Cs.mixedC y = 4 := (if_neg (by omega)).trans ((if_neg (by omega)).trans ((if_neg (by omega)).trans (if_neg (by omega))))
  rw [e2, e3]; exact ZhO y h5 h
 by_cases h6 : y = 6
 ·subst h6
  rw [show ((6 : Nat) : Int) = 6 from rfl]
  have e2 : s.mixed 6 = (s.setQ1 false).setQ2 false := (if_neg (by omega)).trans ((if_neg (by omega)).trans ((if_neg (by omega)).trans ((if_neg (by omega)).trans ((if_neg (by omega)).trans (if_pos (by omega))))))
  have e3 : Cs.mixedC 6 = 4 := (if_neg (by omega)).trans ((if_neg (by omega)).trans ((if_neg (by omega)).trans (if_neg (by omega))))
  rw [e2, e3]; exact ZhM h
 by_cases h1 : y = 1
 ·have e2 : s.mixed y = ((s.setQ1 true).setQ2 true).setDL true := (if_neg (by omega)).trans ((if_neg (by omega)).trans ((if_neg (by omega)).trans ((if_neg (by omega)).trans ((if_neg (by omega)).trans (if_neg (by omega))))))
  have e3 : Cs.mixedC y = 4 := (if_neg (by omega)).trans ((if_neg (by omega)).trans ((if_neg (by omega)).trans (if_neg (by omega))))
  rw [e2, e3]; exact ZhP y h1 h
 obtain rfl : y = 7 := by omega
 rw [show ((7 : Nat) : Int) = 7 from rfl]
 have e2 : s.mixed 7 = ((s.setQ1 true).setQ2 true).setDL true := (if_neg (by omega)).trans ((if_neg (by omega)).trans ((if_neg (by omega)).trans ((if_neg (by omega)).trans ((if_neg (by omega)).trans (if_neg (by omega))))))
 have e3 : Cs.mixedC 7 = 4 := (if_neg (by omega)).trans ((if_neg (by omega)).trans ((if_neg (by omega)).trans (if_neg (by omega))))
 rw [e2, e3]; exact ZhN h
theorem Zai (y : Nat) (hy : y < 4) (h : Hid (Co W0 w c b s l (n + 2))) :
  CX 156 #[.pointer (some ⟨c, 0, none⟩), .int .i64 (y : Int)] w (.int .i64 ((Cs.lastOddC y : Nat) : Int)) fun w' => Hid (Co W0 w' c b (s.lastOdd y) l n) := by
 by_cases h0 : y = 0
 ·subst h0
  rw [show ((0 : Nat) : Int) = 0 from rfl]
  have e2 : s.lastOdd 0 = s.back := if_pos (by omega)
  have e3 : Cs.lastOddC 0 = 10 := if_pos (by omega)
  rw [e2, e3]; exact Zb8 h
 by_cases h1 : y = 1
 ·subst h1
  rw [show ((1 : Nat) : Int) = 1 from rfl]
  have e2 : s.lastOdd 1 = s.setR (s.r.swap true) := (if_neg (by omega)).trans (if_pos (by omega))
  have e3 : Cs.lastOddC 1 = 4 := (if_neg (by omega)).trans (if_pos (by omega))
  rw [e2, e3]; exact Zb9 h
 by_cases h2 : y = 2
 ·subst h2
  rw [show ((2 : Nat) : Int) = 2 from rfl]
  have e2 : s.lastOdd 2 = s.setPC (s.pair 2) := (if_neg (by omega)).trans ((if_neg (by omega)).trans (if_pos (by omega)))
  have e3 : Cs.lastOddC 2 = 4 := (if_neg (by omega)).trans ((if_neg (by omega)).trans (if_pos (by omega)))
  rw [e2, e3]; exact Zca h
 by_cases h3 : y = 3
 ·subst h3
  rw [show ((3 : Nat) : Int) = 3 from rfl]
  have e2 : s.lastOdd 3 = s.setSP (s.pair 2) := (if_neg (by omega)).trans ((if_neg (by omega)).trans (if_neg (by omega)))
  have e3 : Cs.lastOddC 3 = 6 := (if_neg (by omega)).trans ((if_neg (by omega)).trans (if_neg (by omega)))
  rw [e2, e3]; exact Zcb h
 exact absurd hy (by omega)
theorem ZgA (y v : Nat) (hy : y < 8) (hv : v < 256) (h : Hid (Co W0 w c b s l (n))) :
  CX 75 #[.pointer (some ⟨c, 0, none⟩), .int .i64 (y : Int), .int .u8 (v : Int)] w (.tuple #[]) fun w' => Hid (Co W0 w' c b (s.sum y v) l n) := by
 obtain ⟨X, hf, HF, HG, HX, HM⟩ := h.out.hif
 have HF0 := HF
 have hg := HG.out
 have hX := HX.out
 have hO := HM.out
 have a1 : s.r.a < 256 := hf.r.a
 have f1 : s.r.f < 256 := hf.r.f
 have y1 : (y : Int) % 8 = ((y : Nat) : Int) := by omega
 obtain ⟨A, hA⟩ : ∃ x, Hid (Zeb y s.r.a v s.r.f = x) := ⟨_, rfl⟩
 obtain ⟨B, hB⟩ : ∃ x, Hid (Zec y s.r.a v s.r.f = x) := ⟨_, rfl⟩
 have A1 : A < 256 := by rw [← hA.out]; exact Up y _ v _ hy a1 hv
 have B1 : B < 256 := by rw [← hB.out]; exact Uq y _ v _ hy
 have E : s.sum y v = (s.setA A).setF B := by unfold Cs.sum; rw [hA.out, hB.out]
 rw [E]
 clear E h hf hg hX hO
 go_enter Tryz.func75, Tryz.ntmps75
 have c0 := HM.out.cells_at .z 0 _ rfl
 have c1 := HM.out.cells_at .z 1 _ rfl
 have fr0 := (HM.out.at_ .z).free 0
 have fr1 := (HM.out.at_ .z).free 1
 have HM2 := Zb ((HM.out.of_cell 0 (v := .int .u8 (A : Int)) .z).of_cell 1 (v := .int .u8 (B : Int)) .z).drew
 clear HM
 go_region_with (first | (go_at_call 151; (with_reducible refine (do_at _ y _ v _ A B y1 a1 hv f1 hA hB _).mono ?_); rintro e w' ⟨rfl, rfl⟩))
 all_goals go_wp2_with fail
 all_goals trace_state
 all_goals go_end0
 all_goals exact ⟨rfl, Zb (Co.made (s := (s.setA A).setF B) HM2.out HG.out HX.out (Cs.setF_fits (Cs.setA_fits HF.out A1) B1))⟩
theorem k63 {P : Prop} (h : P := by
 clear hp
 go_enter Tryz.func154, Tryz.ntmps154
 go_wp2_with fail
 go_ret
 exact ⟨rfl, rfl⟩) : P := h
theorem V8 (p : Nat) (w : World) : CW 154 #[.int .i64 (p : Int)] w (.int .i64 (Cs.stacked p)) := by
 unfold Cs.stacked
 by_cases hp : p = 3
 ·rw [if_pos hp]
  have p1 : ((p : Int) == 3) = true := by rw [hp]; rfl
  exact k63
 ·rw [if_neg hp]
  have p1 : ((p : Int) == 3) = false := by simp; omega
  exact k63
theorem jc (x y z p q : Nat) (hz : z = 0) (hT : Hid (Tabs W0)) (hy : y < 8) (h : Hid (Co W0 w c b s l (n + 4))) :
  CX 76 #[.pointer (some ⟨c, 0, none⟩), .agg #[.int .i64 (x : Int), .int .i64 (y : Int), .int .i64 (z : Int), .int .i64 (p : Int), .int .i64 (q : Int)]] w (.int .i64 ((cond (ZH s.r.f y) 11 5 : Nat) : Int)) fun w' => Hid (Co W0 w' c b (s.backIf (ZH s.r.f y)) l n) := by
 obtain ⟨X, hf, HF, HG, HX, HM⟩ := h.out.hif
 have HF0 := HF
 have hg := HG.out
 have hX := HX.out
 have hO := HM.out
 have z0 : ((z : Int) == 0) = true := by rw [hz]; rfl
 have z1 : ((z : Int) == 1) = false := by rw [hz]; rfl
 have z2 : ((z : Int) == 2) = false := by rw [hz]; rfl
 have z3 : ((z : Int) == 3) = false := by rw [hz]; rfl
 have z4 : ((z : Int) == 4) = false := by rw [hz]; rfl
 have z5 : ((z : Int) == 5) = false := by rw [hz]; rfl
 have z6 : ((z : Int) == 6) = false := by rw [hz]; rfl
 have z7 : ((z : Int) == 7) = false := by rw [hz]; rfl
 have f1 : s.r.f < 256 := hf.r.f
 have y8 : (y : Int) % 8 = ((y : Nat) : Int) := by omega
 clear h hf hg hX hO
 go_enter Tryz.func76, Tryz.ntmps76
 go_upto_region 3 with (first | refine b6 ?_ | (refine cP ?_; clear HM; intro w' HM) | (refine a4 ?_; clear HM; intro w' g' HM))
 (refine Zk 9 HM (by kernel_rfl) (by kernel_rfl) (by kernel_rfl) ?_; simp only [List.take_succ_cons, List.take_zero, List.drop_succ_cons, List.drop_zero]; (try simp only [Act.put, Ze, Zc, Zd]); repeat ((fail_if_success (with_reducible refine wpQuiet_nil ?_)); first | go_big_quiet_skip | (go_big_quiet_want; first | (refine a15 ?_; go_big_quiet_op; go_big_quiet_on) | (refine a16 ?_; go_big_quiet_op; go_big_quiet_on) | (refine a26 ?_; go_big_quiet_op; go_big_quiet_on) | (refine a24 ?_; go_big_quiet_op; go_big_quiet_on) | ((with_reducible apply Zh); exact fun w => rfl; (focus (go_simp; all_goals with_reducible rfl)); (intro wq HQ; first | (with_reducible exact (yF s.r.f y _ f1 y8 _ (Zb rfl) _ (Tabs.own hT HQ).ask).mono fun _ _ ⟨he, hw⟩ => ⟨he, hw ▸ Below.refl _ _⟩)); go_big_quiet_op; go_big_quiet_on) | (go_big_quiet_op; go_big_quiet_on) | (go_big_quiet_op; refine ⟨_, fun _ _ => rfl, ?_⟩; go_big_quiet_on))))
 refine wpQuiet_nil ?_
 intro w' HM'
 clear HM; have HM := HM'; clear HM'
 go_wp2_with (first | refine b6 ?_ | (refine cP ?_; clear HM; intro w' HM) | (refine a4 ?_; clear HM; intro w' g' HM) | (go_at_call 152; have hco := Za (l := _ :: l) HM HG HX; (with_reducible refine (UI _ hco).mono (Z2 ?_)); clear hco HM HF HG HX; intro w' X HF HG HX HM))
 go_ret
 have hco := Co.ok (l := _ :: l) HM.out HG.out HX.out
 exact ⟨rfl, Zb (hco.drop.less (by omega))⟩
theorem jd (x y z p q : Nat) (hz : z = 2) (hT : Hid (Tabs W0)) (hy : y < 8) (h : Hid (Co W0 w c b s l (n + 4))) :
  CX 76 #[.pointer (some ⟨c, 0, none⟩), .agg #[.int .i64 (x : Int), .int .i64 (y : Int), .int .i64 (z : Int), .int .i64 (p : Int), .int .i64 (q : Int)]] w (.int .i64 ((10 : Nat) : Int)) fun w' => Hid (Co W0 w' c b (s.jumpTo (ZH s.r.f y)) l n) := by
 obtain ⟨X, hf, HF, HG, HX, HM⟩ := h.out.hif
 have HF0 := HF
 have hg := HG.out
 have hX := HX.out
 have hO := HM.out
 have z0 : ((z : Int) == 0) = false := by rw [hz]; rfl
 have z1 : ((z : Int) == 1) = false := by rw [hz]; rfl
 have z2 : ((z : Int) == 2) = true := by rw [hz]; rfl
 have z3 : ((z : Int) == 3) = false := by rw [hz]; rfl
 have z4 : ((z : Int) == 4) = false := by rw [hz]; rfl
 have z5 : ((z : Int) == 5) = false := by rw [hz]; rfl
 have z6 : ((z : Int) == 6) = false := by rw [hz]; rfl
 have z7 : ((z : Int) == 7) = false := by rw [hz]; rfl
 have f1 : s.r.f < 256 := hf.r.f
 have y8 : (y : Int) % 8 = ((y : Nat) : Int) := by omega
 clear h hf hg hX hO
 go_enter Tryz.func76, Tryz.ntmps76
 go_upto_region 10 with (first | refine b6 ?_ | (refine cP ?_; clear HM; intro w' HM) | (refine a4 ?_; clear HM; intro w' g' HM))
 (refine Zk 9 HM (by kernel_rfl) (by kernel_rfl) (by kernel_rfl) ?_; simp only [List.take_succ_cons, List.take_zero, List.drop_succ_cons, List.drop_zero]; (try simp only [Act.put, Ze, Zc, Zd]); repeat ((fail_if_success (with_reducible refine wpQuiet_nil ?_)); first | go_big_quiet_skip | (go_big_quiet_want; first | (refine a15 ?_; go_big_quiet_op; go_big_quiet_on) | (refine a16 ?_; go_big_quiet_op; go_big_quiet_on) | (refine a26 ?_; go_big_quiet_op; go_big_quiet_on) | (refine a24 ?_; go_big_quiet_op; go_big_quiet_on) | ((with_reducible apply Zh); exact fun w => rfl; (focus (go_simp; all_goals with_reducible rfl)); (intro wq HQ; first | (with_reducible exact (yF s.r.f y _ f1 y8 _ (Zb rfl) _ (Tabs.own hT HQ).ask).mono fun _ _ ⟨he, hw⟩ => ⟨he, hw ▸ Below.refl _ _⟩)); go_big_quiet_op; go_big_quiet_on) | (go_big_quiet_op; go_big_quiet_on) | (go_big_quiet_op; refine ⟨_, fun _ _ => rfl, ?_⟩; go_big_quiet_on))))
 refine wpQuiet_nil ?_
 intro w' HM'
 clear HM; have HM := HM'; clear HM'
 go_wp2_with (first | refine b6 ?_ | (refine cP ?_; clear HM; intro w' HM) | (refine a4 ?_; clear HM; intro w' g' HM) | (go_at_call 157; have hco := Za (l := _ :: l) HM HG HX; (with_reducible refine (Zhy _ hco).mono (Z2 ?_)); clear hco HM HF HG HX; intro w' X HF HG HX HM))
 go_ret
 have hco := Co.ok (l := _ :: l) HM.out HG.out HX.out
 exact ⟨rfl, Zb (hco.drop.less (by omega))⟩
theorem je (x y z p q : Nat) (hz : z = 4) (hT : Hid (Tabs W0)) (hy : y < 8) (h : Hid (Co W0 w c b s l (n + 4))) :
  CX 76 #[.pointer (some ⟨c, 0, none⟩), .agg #[.int .i64 (x : Int), .int .i64 (y : Int), .int .i64 (z : Int), .int .i64 (p : Int), .int .i64 (q : Int)]] w (.int .i64 ((cond (ZH s.r.f y) 17 10 : Nat) : Int)) fun w' => Hid (Co W0 w' c b (s.callTo (ZH s.r.f y)) l n) := by
 obtain ⟨X, hf, HF, HG, HX, HM⟩ := h.out.hif
 have HF0 := HF
 have hg := HG.out
 have hX := HX.out
 have hO := HM.out
 have z0 : ((z : Int) == 0) = false := by rw [hz]; rfl
 have z1 : ((z : Int) == 1) = false := by rw [hz]; rfl
 have z2 : ((z : Int) == 2) = false := by rw [hz]; rfl
 have z3 : ((z : Int) == 3) = false := by rw [hz]; rfl
 have z4 : ((z : Int) == 4) = true := by rw [hz]; rfl
 have z5 : ((z : Int) == 5) = false := by rw [hz]; rfl
 have z6 : ((z : Int) == 6) = false := by rw [hz]; rfl
 have z7 : ((z : Int) == 7) = false := by rw [hz]; rfl
 have f1 : s.r.f < 256 := hf.r.f
 have y8 : (y : Int) % 8 = ((y : Nat) : Int) := by omega
 clear h hf hg hX hO
 go_enter Tryz.func76, Tryz.ntmps76
 go_upto_region 14 with (first | refine b6 ?_ | (refine cP ?_; clear HM; intro w' HM) | (refine a4 ?_; clear HM; intro w' g' HM))
 (refine Zk 9 HM (by kernel_rfl) (by kernel_rfl) (by kernel_rfl) ?_; simp only [List.take_succ_cons, List.take_zero, List.drop_succ_cons, List.drop_zero]; (try simp only [Act.put, Ze, Zc, Zd]); repeat ((fail_if_success (with_reducible refine wpQuiet_nil ?_)); first | go_big_quiet_skip | (go_big_quiet_want; first | (refine a15 ?_; go_big_quiet_op; go_big_quiet_on) | (refine a16 ?_; go_big_quiet_op; go_big_quiet_on) | (refine a26 ?_; go_big_quiet_op; go_big_quiet_on) | (refine a24 ?_; go_big_quiet_op; go_big_quiet_on) | ((with_reducible apply Zh); exact fun w => rfl; (focus (go_simp; all_goals with_reducible rfl)); (intro wq HQ; first | (with_reducible exact (yF s.r.f y _ f1 y8 _ (Zb rfl) _ (Tabs.own hT HQ).ask).mono fun _ _ ⟨he, hw⟩ => ⟨he, hw ▸ Below.refl _ _⟩)); go_big_quiet_op; go_big_quiet_on) | (go_big_quiet_op; go_big_quiet_on) | (go_big_quiet_op; refine ⟨_, fun _ _ => rfl, ?_⟩; go_big_quiet_on))))
 refine wpQuiet_nil ?_
 intro w' HM'
 clear HM; have HM := HM'; clear HM'
 go_wp2_with (first | refine b6 ?_ | (refine cP ?_; clear HM; intro w' HM) | (refine a4 ?_; clear HM; intro w' g' HM) | (go_at_call 159; have hco := Za (l := _ :: l) HM HG HX; (with_reducible refine (Zhz _ hco).mono (Z2 ?_)); clear hco HM HF HG HX; intro w' X HF HG HX HM))
 go_ret
 have hco := Co.ok (l := _ :: l) HM.out HG.out HX.out
 exact ⟨rfl, Zb (hco.drop.less (by omega))⟩
theorem WL (x y z p q : Nat) (hz : z = 1) (hq : q = 0) (h : Hid (Co W0 w c b s l (n + 4))) :
  CX 76 #[.pointer (some ⟨c, 0, none⟩), .agg #[.int .i64 (x : Int), .int .i64 (y : Int), .int .i64 (z : Int), .int .i64 (p : Int), .int .i64 (q : Int)]] w (.int .i64 10) fun w' => Hid (Co W0 w' c b (s.pop.setPair (Cs.stacked p) s.popV) l n) := by
 obtain ⟨X, hf, HF, HG, HX, HM⟩ := h.out.hif
 have HF0 := HF
 have hg := HG.out
 have hX := HX.out
 have hO := HM.out
 have z0 : ((z : Int) == 0) = false := by rw [hz]; rfl
 have z1 : ((z : Int) == 1) = true := by rw [hz]; rfl
 have z2 : ((z : Int) == 2) = false := by rw [hz]; rfl
 have z3 : ((z : Int) == 3) = false := by rw [hz]; rfl
 have z4 : ((z : Int) == 4) = false := by rw [hz]; rfl
 have z5 : ((z : Int) == 5) = false := by rw [hz]; rfl
 have z6 : ((z : Int) == 6) = false := by rw [hz]; rfl
 have z7 : ((z : Int) == 7) = false := by rw [hz]; rfl
 have q0 : ((q : Int) == 0) = true := by rw [hq]; rfl
 have N1 : s.popV < 65536 := Cs.numV_lt hf _
 clear h hf hg hX hO
 go_enter Tryz.func76, Tryz.ntmps76
 go_wp2_with (first | refine b6 ?_ | (refine cP ?_; clear HM; intro w' HM) | (refine a4 ?_; clear HM; intro w' g' HM) | (go_at_call 154; (with_reducible refine (V8 p _).mono ?_); rintro e w' ⟨rfl, rfl⟩) | (go_at_call 155; have hco := Za (l := _ :: l) HM HG HX; (with_reducible refine (Zgy hco).mono (Z2 ?_)); clear hco HM HF HG HX; intro w' X HF HG HX HM) | (go_at_call 139; have hco := Za (l := _ :: l) HM HG HX; (with_reducible refine (ZO _ _ N1 hco).mono (Z2 ?_)); clear hco HM HF HG HX; intro w' X HF HG HX HM))
 go_ret
 have hco := Co.ok (l := _ :: l) HM.out HG.out HX.out
 exact ⟨rfl, Zb (hco.drop.less (by omega))⟩
theorem WM (x y z p q : Nat) (hz : z = 1) (hq : ¬ q = 0) (hp : p < 4) (h : Hid (Co W0 w c b s l (n + 4))) :
  CX 76 #[.pointer (some ⟨c, 0, none⟩), .agg #[.int .i64 (x : Int), .int .i64 (y : Int), .int .i64 (z : Int), .int .i64 (p : Int), .int .i64 (q : Int)]] w (.int .i64 ((Cs.lastOddC p : Nat) : Int)) fun w' => Hid (Co W0 w' c b (s.lastOdd p) l n) := by
 obtain ⟨X, hf, HF, HG, HX, HM⟩ := h.out.hif
 have HF0 := HF
 have hg := HG.out
 have hX := HX.out
 have hO := HM.out
 have z0 : ((z : Int) == 0) = false := by rw [hz]; rfl
 have z1 : ((z : Int) == 1) = true := by rw [hz]; rfl
 have z2 : ((z : Int) == 2) = false := by rw [hz]; rfl
 have z3 : ((z : Int) == 3) = false := by rw [hz]; rfl
 have z4 : ((z : Int) == 4) = false := by rw [hz]; rfl
 have z5 : ((z : Int) == 5) = false := by rw [hz]; rfl
 have z6 : ((z : Int) == 6) = false := by rw [hz]; rfl
 have z7 : ((z : Int) == 7) = false := by rw [hz]; rfl
 have q0 : ((q : Int) == 0) = false := by simp; omega
 clear h hf hg hX hO
 go_enter Tryz.func76, Tryz.ntmps76
 go_wp2_with (first | refine b6 ?_ | (refine cP ?_; clear HM; intro w' HM) | (refine a4 ?_; clear HM; intro w' g' HM) | (go_at_call 156; have hco := Za (l := _ :: l) HM HG HX; (with_reducible refine (Zai p hp hco).mono (Z2 ?_)); clear hco HM HF HG HX; intro w' X HF HG HX HM))
 go_ret
 have hco := Co.ok (l := _ :: l) HM.out HG.out HX.out
 exact ⟨rfl, Zb (hco.drop.less (by omega))⟩
theorem jg (x y z p q : Nat) (hz : z = 3) (hy : y < 8) (h : Hid (Co W0 w c b s l (n + 4))) :
  CX 76 #[.pointer (some ⟨c, 0, none⟩), .agg #[.int .i64 (x : Int), .int .i64 (y : Int), .int .i64 (z : Int), .int .i64 (p : Int), .int .i64 (q : Int)]] w (.int .i64 ((Cs.mixedC y : Nat) : Int)) fun w' => Hid (Co W0 w' c b (s.mixed y) l n) := by
 obtain ⟨X, hf, HF, HG, HX, HM⟩ := h.out.hif
 have HF0 := HF
 have hg := HG.out
 have hX := HX.out
 have hO := HM.out
 have z0 : ((z : Int) == 0) = false := by rw [hz]; rfl
 have z1 : ((z : Int) == 1) = false := by rw [hz]; rfl
 have z2 : ((z : Int) == 2) = false := by rw [hz]; rfl
 have z3 : ((z : Int) == 3) = true := by rw [hz]; rfl
 have z4 : ((z : Int) == 4) = false := by rw [hz]; rfl
 have z5 : ((z : Int) == 5) = false := by rw [hz]; rfl
 have z6 : ((z : Int) == 6) = false := by rw [hz]; rfl
 have z7 : ((z : Int) == 7) = false := by rw [hz]; rfl
 clear h hf hg hX hO
 go_enter Tryz.func76, Tryz.ntmps76
 go_wp2_with (first | refine b6 ?_ | (refine cP ?_; clear HM; intro w' HM) | (refine a4 ?_; clear HM; intro w' g' HM) | (go_at_call 158; have hco := Za (l := _ :: l) HM HG HX; (with_reducible refine (ZeQ y hy hco).mono (Z2 ?_)); clear hco HM HF HG HX; intro w' X HF HG HX HM))
 go_ret
 have hco := Co.ok (l := _ :: l) HM.out HG.out HX.out
 exact ⟨rfl, Zb (hco.drop.less (by omega))⟩
theorem WN (x y z p q : Nat) (hz : z = 5) (hq : q = 0) (h : Hid (Co W0 w c b s l (n + 4))) :
  CX 76 #[.pointer (some ⟨c, 0, none⟩), .agg #[.int .i64 (x : Int), .int .i64 (y : Int), .int .i64 (z : Int), .int .i64 (p : Int), .int .i64 (q : Int)]] w (.int .i64 11) fun w' => Hid (Co W0 w' c b (s.push (s.pair (Cs.stacked p))) l n) := by
 obtain ⟨X, hf, HF, HG, HX, HM⟩ := h.out.hif
 have HF0 := HF
 have hg := HG.out
 have hX := HX.out
 have hO := HM.out
 have z0 : ((z : Int) == 0) = false := by rw [hz]; rfl
 have z1 : ((z : Int) == 1) = false := by rw [hz]; rfl
 have z2 : ((z : Int) == 2) = false := by rw [hz]; rfl
 have z3 : ((z : Int) == 3) = false := by rw [hz]; rfl
 have z4 : ((z : Int) == 4) = false := by rw [hz]; rfl
 have z5 : ((z : Int) == 5) = true := by rw [hz]; rfl
 have z6 : ((z : Int) == 6) = false := by rw [hz]; rfl
 have z7 : ((z : Int) == 7) = false := by rw [hz]; rfl
 have q0 : ((q : Int) == 0) = true := by rw [hq]; rfl
 have N1 : s.pair (Cs.stacked p) < 65536 := Cs.pair_lt hf _
 clear h hf hg hX hO
 go_enter Tryz.func76, Tryz.ntmps76
 go_wp2_with (first | refine b6 ?_ | (refine cP ?_; clear HM; intro w' HM) | (refine a4 ?_; clear HM; intro w' g' HM) | (go_at_call 154; (with_reducible refine (V8 p _).mono ?_); rintro e w' ⟨rfl, rfl⟩) | (go_at_call 67; (with_reducible refine (ZB .z HM HF.out _).mono ?_); rintro e w' ⟨rfl, hb⟩; replace HM := Zb (HM.out.call hb); clear hb) | (go_at_call 114; have hco := Za (l := _ :: l) HM HG HX; (with_reducible refine (zT _ N1 hco).mono (Z2 ?_)); clear hco HM HF HG HX; intro w' X HF HG HX HM))
 go_ret
 have hco := Co.ok (l := _ :: l) HM.out HG.out HX.out
 exact ⟨rfl, Zb (hco.drop.less (by omega))⟩
theorem WO (x y z p q : Nat) (hz : z = 5) (hq : ¬ q = 0) (h : Hid (Co W0 w c b s l (n + 4))) :
  CX 76 #[.pointer (some ⟨c, 0, none⟩), .agg #[.int .i64 (x : Int), .int .i64 (y : Int), .int .i64 (z : Int), .int .i64 (p : Int), .int .i64 (q : Int)]] w (.int .i64 17) fun w' => Hid (Co W0 w' c b (s.callTo true) l n) := by
 obtain ⟨X, hf, HF, HG, HX, HM⟩ := h.out.hif
 have HF0 := HF
 have hg := HG.out
 have hX := HX.out
 have hO := HM.out
 have z0 : ((z : Int) == 0) = false := by rw [hz]; rfl
 have z1 : ((z : Int) == 1) = false := by rw [hz]; rfl
 have z2 : ((z : Int) == 2) = false := by rw [hz]; rfl
 have z3 : ((z : Int) == 3) = false := by rw [hz]; rfl
 have z4 : ((z : Int) == 4) = false := by rw [hz]; rfl
 have z5 : ((z : Int) == 5) = true := by rw [hz]; rfl
 have z6 : ((z : Int) == 6) = false := by rw [hz]; rfl
 have z7 : ((z : Int) == 7) = false := by rw [hz]; rfl
 have q0 : ((q : Int) == 0) = false := by simp; omega
 clear h hf hg hX hO
 go_enter Tryz.func76, Tryz.ntmps76
 go_wp2_with (first | refine b6 ?_ | (refine cP ?_; clear HM; intro w' HM) | (refine a4 ?_; clear HM; intro w' g' HM) | (go_at_call 159; have hco := Za (l := _ :: l) HM HG HX; (with_reducible refine (Wz hco).mono (Z2 ?_)); clear hco HM HF HG HX; intro w' X HF HG HX HM))
 go_ret
 have hco := Co.ok (l := _ :: l) HM.out HG.out HX.out
 exact ⟨rfl, Zb (hco.drop.less (by omega))⟩
theorem jh (x y z p q : Nat) (hz : z = 6) (hy : y < 8) (h : Hid (Co W0 w c b s l (n + 4))) :
  CX 76 #[.pointer (some ⟨c, 0, none⟩), .agg #[.int .i64 (x : Int), .int .i64 (y : Int), .int .i64 (z : Int), .int .i64 (p : Int), .int .i64 (q : Int)]] w (.int .i64 7) fun w' => Hid (Co W0 w' c b (s.next.sum y s.nextV) l n) := by
 obtain ⟨X, hf, HF, HG, HX, HM⟩ := h.out.hif
 have HF0 := HF
 have hg := HG.out
 have hX := HX.out
 have hO := HM.out
 have z0 : ((z : Int) == 0) = false := by rw [hz]; rfl
 have z1 : ((z : Int) == 1) = false := by rw [hz]; rfl
 have z2 : ((z : Int) == 2) = false := by rw [hz]; rfl
 have z3 : ((z : Int) == 3) = false := by rw [hz]; rfl
 have z4 : ((z : Int) == 4) = false := by rw [hz]; rfl
 have z5 : ((z : Int) == 5) = false := by rw [hz]; rfl
 have z6 : ((z : Int) == 6) = true := by rw [hz]; rfl
 have z7 : ((z : Int) == 7) = false := by rw [hz]; rfl
 have v1 : s.nextV < 256 := hf.m _
 clear h hf hg hX hO
 have tg1 : Hid True := trivial
 go_enter Tryz.func76, Tryz.ntmps76
 go_upto_region 21 with (first | refine b6 ?_ | (refine cP ?_; clear HM; intro w' HM) | (refine a4 ?_; clear tg1 HM; intro w' g1 HM))
 have HM' := Zb HM.out.drew
 clear HM; have HM := HM'; clear HM'
 have d1 := HM.out.cells_at (.s .z) 1 _ rfl
 go_region_held3 (fun w' => w'.cell? ⟨g1, 1, none⟩ = some (.int .i64 (y : Int))) (first | assumption | (simp only [*]; trivial) | simp [*]) (first | (go_at_call 62; have hco := Za (l := _ :: l) HM HG HX; (with_reducible refine (Yy (n := n + 3) hco).mono (Z2 ?_)); clear hco HM HF HG HX; intro w' X HF HG HX HM; have d1 := HM.out.cells_at (.s .z) 1 _ rfl) | (go_at_call 75; have hco := Za (l := _ :: l) HM HG HX; (with_reducible refine (ZgA y _ hy v1 hco).mono (Z2 ?_)); clear hco HM HF HG HX; intro w' X HF HG HX HM; have d1 := HM.out.cells_at (.s .z) 1 _ rfl))
 all_goals go_wp2_with (first | refine b6 ?_ | (refine cP ?_; clear HM; intro w' HM) | (refine a4 ?_; clear tg1 HM; intro w' g1 HM))
 all_goals go_ret
 all_goals have hco := Co.ok (l := _ :: l) HM.out HG.out HX.out
 all_goals exact ⟨rfl, Zb (hco.drop.less (by omega))⟩
theorem ji (x y z p q : Nat) (hz : z = 7) (hy : y < 8) (h : Hid (Co W0 w c b s l (n + 4))) :
  CX 76 #[.pointer (some ⟨c, 0, none⟩), .agg #[.int .i64 (x : Int), .int .i64 (y : Int), .int .i64 (z : Int), .int .i64 (p : Int), .int .i64 (q : Int)]] w (.int .i64 11) fun w' => Hid (Co W0 w' c b (s.start (y * 8)) l n) := by
 obtain ⟨X, hf, HF, HG, HX, HM⟩ := h.out.hif
 have HF0 := HF
 have hg := HG.out
 have hX := HX.out
 have hO := HM.out
 have z0 : ((z : Int) == 0) = false := by rw [hz]; rfl
 have z1 : ((z : Int) == 1) = false := by rw [hz]; rfl
 have z2 : ((z : Int) == 2) = false := by rw [hz]; rfl
 have z3 : ((z : Int) == 3) = false := by rw [hz]; rfl
 have z4 : ((z : Int) == 4) = false := by rw [hz]; rfl
 have z5 : ((z : Int) == 5) = false := by rw [hz]; rfl
 have z6 : ((z : Int) == 6) = false := by rw [hz]; rfl
 have z7 : ((z : Int) == 7) = true := by rw [hz]; rfl
 obtain ⟨A, hA⟩ : ∃ A, Hid (y * 8 = A) := ⟨_, rfl⟩
 have hA2 := hA.out
 have a1 : A < 65536 := by omega
 have e8 : IntKind.i64.wrap ((y : Int) * 8) = (A : Int) := by rw [IntKind.wrap_i64]; omega
 have e9 : IntKind.u16.wrap (A : Int) = (A : Int) := by show (A : Int) % 65536 = _; omega
 rw [hA2]
 have a2 : (A : Int) < 65536 := by omega
 clear hA2
 clear h hf hg hX hO
 go_enter Tryz.func76, Tryz.ntmps76
 go_wp2_with (first | refine b6 ?_ | (refine cP ?_; clear HM; intro w' HM) | (refine a4 ?_; clear HM; intro w' g' HM) | (go_at_call 57; have hco := Za (l := _ :: l) HM HG HX; (with_reducible refine (YP _ a1 hco).mono (Z2 ?_)); clear hco HM HF HG HX; intro w' X HF HG HX HM))
 go_ret
 have hco := Co.ok (l := _ :: l) HM.out HG.out HX.out
 exact ⟨rfl, Zb (hco.drop.less (by omega))⟩
theorem WP (hT : Hid (Tabs W0)) (x y z p q : Nat) (hy : y < 8) (hz : z < 8) (hp : y / 2 = p) (hq : y % 2 = q) (h : Hid (Co W0 w c b s l (n + 4))) :
  CX 76 #[.pointer (some ⟨c, 0, none⟩), .agg #[.int .i64 (x : Int), .int .i64 (y : Int), .int .i64 (z : Int), .int .i64 (p : Int), .int .i64 (q : Int)]] w (.int .i64 ((s.plain3C y z : Nat) : Int)) fun w' => Hid (Co W0 w' c b (s.plain3 y z) l n) := by
 by_cases h0 : z = 0
 ·have e2 : s.plain3 y z = s.backIf (ZH s.r.f y) := if_pos (by omega)
  have e3 : s.plain3C y z = cond (ZH s.r.f y) 11 5 := if_pos (by omega)
  rw [e2, e3]; exact jc x y z p q h0 hT hy h
 by_cases h2 : z = 2
 ·have e2 : s.plain3 y z = s.jumpTo (ZH s.r.f y) := (if_neg (by omega)).trans ((if_neg (by omega)).trans (if_pos (by omega)))
  have e3 : s.plain3C y z = 10 := (if_neg (by omega)).trans ((if_neg (by omega)).trans (if_pos (by omega)))
  rw [e2, e3]; exact jd x y z p q h2 hT hy h
 by_cases h3 : z = 3
 ·have e2 : s.plain3 y z = s.mixed y := (if_neg (by omega)).trans ((if_neg (by omega)).trans ((if_neg (by omega)).trans (if_pos (by omega))))
  have e3 : s.plain3C y z = Cs.mixedC y := (if_neg (by omega)).trans ((if_neg (by omega)).trans ((if_neg (by omega)).trans (if_pos (by omega))))
  rw [e2, e3]; exact jg x y z p q h3 hy h
 by_cases h4 : z = 4
 ·have e2 : s.plain3 y z = s.callTo (ZH s.r.f y) := (if_neg (by omega)).trans ((if_neg (by omega)).trans ((if_neg (by omega)).trans ((if_neg (by omega)).trans (if_pos (by omega)))))
  have e3 : s.plain3C y z = cond (ZH s.r.f y) 17 10 := (if_neg (by omega)).trans ((if_neg (by omega)).trans ((if_neg (by omega)).trans ((if_neg (by omega)).trans (if_pos (by omega)))))
  rw [e2, e3]; exact je x y z p q h4 hT hy h
 by_cases h6 : z = 6
 ·have e2 : s.plain3 y z = s.next.sum y s.nextV := (if_neg (by omega)).trans ((if_neg (by omega)).trans ((if_neg (by omega)).trans ((if_neg (by omega)).trans ((if_neg (by omega)).trans ((if_neg (by omega)).trans (if_pos (by omega)))))))
  have e3 : s.plain3C y z = 7 := (if_neg (by omega)).trans ((if_neg (by omega)).trans ((if_neg (by omega)).trans ((if_neg (by omega)).trans ((if_neg (by omega)).trans ((if_neg (by omega)).trans (if_pos (by omega)))))))
  rw [e2, e3]; exact jh x y z p q h6 hy h
 by_cases h1 : z = 1
 ·by_cases h8 : q = 0
  ·have e2 : s.plain3 y z = s.pop.setPair (Cs.stacked (y / 2)) s.popV := (if_neg (by omega)).trans ((if_pos h1).trans (if_pos (by omega)))
   have e3 : s.plain3C y z = 10 := (if_neg (by omega)).trans ((if_pos h1).trans (if_pos (by omega)))
   rw [e2, e3, hp]
   exact WL x y z p q h1 h8 h
  ·have e2 : s.plain3 y z = s.lastOdd (y / 2) := (if_neg (by omega)).trans ((if_pos h1).trans (if_neg (by omega)))
   have e3 : s.plain3C y z = Cs.lastOddC (y / 2) := (if_neg (by omega)).trans ((if_pos h1).trans (if_neg (by omega)))
   rw [e2, e3]; rw [hp]
   exact WM x y z p q h1 h8 (by omega) h
 by_cases h5 : z = 5
 ·by_cases h8 : q = 0
  ·have e2 : s.plain3 y z = s.push (s.pair (Cs.stacked (y / 2))) := (if_neg (by omega)).trans ((if_neg (by omega)).trans ((if_neg (by omega)).trans ((if_neg (by omega)).trans ((if_neg (by omega)).trans ((if_pos h5).trans (if_pos (by omega)))))))
   have e3 : s.plain3C y z = 11 := (if_neg (by omega)).trans ((if_neg (by omega)).trans ((if_neg (by omega)).trans ((if_neg (by omega)).trans ((if_neg (by omega)).trans ((if_pos h5).trans (if_pos (by omega)))))))
   rw [e2, e3, hp]
   exact WN x y z p q h5 h8 h
  ·have e2 : s.plain3 y z = s.callTo true := (if_neg (by omega)).trans ((if_neg (by omega)).trans ((if_neg (by omega)).trans ((if_neg (by omega)).trans ((if_neg (by omega)).trans ((if_pos h5).trans (if_neg (by omega)))))))
   have e3 : s.plain3C y z = 17 := (if_neg (by omega)).trans ((if_neg (by omega)).trans ((if_neg (by omega)).trans ((if_neg (by omega)).trans ((if_neg (by omega)).trans ((if_pos h5).trans (if_neg (by omega)))))))
   rw [e2, e3]
   exact WO x y z p q h5 h8 h
 have h7 : z = 7 := by omega
 have e2 : s.plain3 y z = s.start (y * 8) := (if_neg (by omega)).trans ((if_neg (by omega)).trans ((if_neg (by omega)).trans ((if_neg (by omega)).trans ((if_neg (by omega)).trans ((if_neg (by omega)).trans (if_neg (by omega)))))))
 have e3 : s.plain3C y z = 11 := (if_neg (by omega)).trans ((if_neg (by omega)).trans ((if_neg (by omega)).trans ((if_neg (by omega)).trans ((if_neg (by omega)).trans ((if_neg (by omega)).trans (if_neg (by omega)))))))
 rw [e2, e3]; exact ji x y z p q h7 hy h
end
end Go.Proofs.YtgdeeiimkhjfiaaGreatDoor
