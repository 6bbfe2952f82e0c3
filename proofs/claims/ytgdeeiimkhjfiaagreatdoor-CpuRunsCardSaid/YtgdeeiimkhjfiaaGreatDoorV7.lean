import Derived.Test.YtgdeeiimkhjfiaaGreatDoorV6
set_option maxRecDepth 100000
set_option maxHeartbeats 6400000
namespace Go.Proofs.YtgdeeiimkhjfiaaGreatDoor
open Go.RowKit
section
variable {W0 w : World} {x b tq n c : Nat} {s : Cs} {ix : Bool} {pg : Int} {l : Zj}
theorem ZN (h : Hid (Co W0 w c b s l (n + 1))) :
  CX 65 #[.pointer (some ⟨c, 0, none⟩)] w (.int .u16 (s.pointV : Int)) fun w' => Hid (Co W0 w' c b (s.point) l n) := by
 by_cases hp : s.px = 0
 ·have E1 : s.pointV = s.pair 2 := if_pos hp
  have E2 : s.point = s := if_pos hp
  rw [E1, E2]
  have hp' : ((s.px : Int) == 0) = true := by simp; omega
  obtain ⟨X, hf, HF, HG, HX, HM⟩ := h.out.hif
  have HF0 := HF
  have hg := HG.out
  have hX := HX.out
  have hO := HM.out
  clear E1 E2 hp
  clear h hf hg hX hO
  go_enter Tryz.func65, Tryz.ntmps65
  go_wp2_with (first | refine cG ?_ | (refine cP ?_; clear HM; intro w' HM) | (go_at_call 67; (with_reducible refine (ZB .z HM HF.out _).mono ?_); rintro e w' ⟨rfl, hb⟩; replace HM := Zb (HM.out.call hb); clear hb))
  go_ret
  have hco := fun hf => Co.made HM.out HG.out HX.out hf
  exact ⟨rfl, Zb ((hco HF.out).less (by omega))⟩
 ·have E1 : s.pointV = wMove (s.pair 2) s.nextV := if_neg hp
  have E2 : s.point = s.next.setWZ (wMove (s.pair 2) s.nextV) := if_neg hp
  rw [E1, E2]
  have hp' : ((s.px : Int) == 0) = false := by simp; omega
  obtain ⟨X, hf, HF, HG, HX, HM⟩ := h.out.hif
  have HF0 := HF
  have hg := HG.out
  have hX := HX.out
  have hO := HM.out
  have h1 : s.pair 2 < 65536 := Cs.pair_lt hf _
  have h2 : s.nextV < 256 := hf.m _
  clear E1 E2 hp
  clear h hf hg hX hO
  go_enter Tryz.func65, Tryz.ntmps65
  go_wp2_with (first | refine cG ?_ | (refine cP ?_; clear HM; intro w' HM) | (go_at_call 67; (with_reducible refine (ZB .z HM HF.out _).mono ?_); rintro e w' ⟨rfl, hb⟩; replace HM := Zb (HM.out.call hb); clear hb) | (go_at_call 62; have hco := Za HM HG HX; (with_reducible refine (Yy hco).mono (coK ?_)); clear hco HM HF HG HX; intro w' X HF HG HX HM) | (go_at_call 127; (with_reducible refine (Y8 _ _ _ h1 h2 (Zb rfl) _).mono ?_); rintro e w' ⟨rfl, rfl⟩))
  go_ret
  have hco := Co.ok HM.out HG.out HX.out
  exact ⟨rfl, Zb hco⟩
theorem Cs.pointV_lt (h : s.Fits) : s.pointV < 65536 := by
 unfold Cs.pointV
 split
 ·exact Cs.pair_lt h _
 ·exact Zt _ _
theorem Cs.point_px (s : Cs) : s.point.px = s.px := by unfold Cs.point; split <;> rfl
theorem Cs.point_m (s : Cs) : s.point.m = s.m := by unfold Cs.point; split <;> rfl
theorem Ws (hp : s.px = 0) (h : Hid (Co W0 w c b s l (n + 2))) :
  CX 74 #[.pointer (some ⟨c, 0, none⟩), .int .i64 6] w (.tuple #[.int .u8 (s.m s.pointV : Int), .int .i64 7]) fun w' => Hid (Co W0 w' c b (s.point.rd s.pointV) l n) := by
 rw [show s.m s.pointV = s.point.m s.pointV by rw [Cs.point_m]]
 obtain ⟨X, hf, HF, HG, HX, HM⟩ := h.out.hif
 have HF0 := HF
 have hg := HG.out
 have hX := HX.out
 have hO := HM.out
 have P1 : s.pointV < 65536 := Cs.pointV_lt hf
 have hp' : ((s.px : Int) == 0) = true := by simp; omega
 have hpp : s.point.px = 0 := by rw [Cs.point_px]; exact hp
 clear h hf hg hX hO
 have hmRead : ∀ w : World, (method 296 29 (.pointer (some ⟨b, 0, none⟩)) "Read").run Tryz.prog w = .ok (247, .pointer (some ⟨b, 0, none⟩)) w := fun _ => by kernel_rfl
 go_enter Tryz.func74, Tryz.ntmps74
 go_upto_region 2 with fail
 have HM' := Zb HM.out.drew
 clear HM; have HM := HM'; clear HM'
 have c29 := HM.out.cells_at .z 29 _ rfl
 go_region_with (first | (go_at_call 65; have hco := Za HM HG HX; (with_reducible refine (ZN hco).mono (coK ?_)); clear hco HM HF HG HX; intro w' X HF HG HX HM; have c29 := HM.out.cells_at .z 29 _ rfl) | (go_at_call 247; have hco := Za HM HG HX; (with_reducible refine (YZ _ P1 hco).mono (coK ?_)); clear hco HM HF HG HX; intro w' X HF HG HX HM; have c29 := HM.out.cells_at .z 29 _ rfl) | (go_at_call 150; (with_reducible refine (Yx (s := s.point.rd s.pointV) .z HM HF.out hpp 7 15).mono ?_); rintro e w' ⟨rfl, hb⟩; replace HM := Zb (HM.out.call hb); clear hb; have c29 := HM.out.cells_at .z 29 _ rfl))
 all_goals go_wp2_with fail
 all_goals go_ret2
 all_goals have hco := Co.ok HM.out HG.out HX.out
 all_goals exact ⟨rfl, Zb (hco.less (by omega))⟩
theorem zU (hp : ¬ s.px = 0) (h : Hid (Co W0 w c b s l (n + 2))) :
  CX 74 #[.pointer (some ⟨c, 0, none⟩), .int .i64 6] w (.tuple #[.int .u8 (s.m s.pointV : Int), .int .i64 15]) fun w' => Hid (Co W0 w' c b (s.point.rd s.pointV) l n) := by
 rw [show s.m s.pointV = s.point.m s.pointV by rw [Cs.point_m]]
 obtain ⟨X, hf, HF, HG, HX, HM⟩ := h.out.hif
 have HF0 := HF
 have hg := HG.out
 have hX := HX.out
 have hO := HM.out
 have P1 : s.pointV < 65536 := Cs.pointV_lt hf
 have hp' : ((s.px : Int) == 0) = false := by simp; omega
 have hpp : ¬ s.point.px = 0 := by rw [Cs.point_px]; exact hp
 clear h hf hg hX hO
 have hmRead : ∀ w : World, (method 296 29 (.pointer (some ⟨b, 0, none⟩)) "Read").run Tryz.prog w = .ok (247, .pointer (some ⟨b, 0, none⟩)) w := fun _ => by kernel_rfl
 go_enter Tryz.func74, Tryz.ntmps74
 go_upto_region 2 with fail
 have HM' := Zb HM.out.drew
 clear HM; have HM := HM'; clear HM'
 have c29 := HM.out.cells_at .z 29 _ rfl
 go_region_with (first | (go_at_call 65; have hco := Za HM HG HX; (with_reducible refine (ZN hco).mono (coK ?_)); clear hco HM HF HG HX; intro w' X HF HG HX HM; have c29 := HM.out.cells_at .z 29 _ rfl) | (go_at_call 247; have hco := Za HM HG HX; (with_reducible refine (YZ _ P1 hco).mono (coK ?_)); clear hco HM HF HG HX; intro w' X HF HG HX HM; have c29 := HM.out.cells_at .z 29 _ rfl) | (go_at_call 150; (with_reducible refine (YR (s := s.point.rd s.pointV) .z HM HF.out hpp 7 15).mono ?_); rintro e w' ⟨rfl, hb⟩; replace HM := Zb (HM.out.call hb); clear hb; have c29 := HM.out.cells_at .z 29 _ rfl))
 all_goals go_wp2_with fail
 all_goals go_ret2
 all_goals have hco := Co.ok HM.out HG.out HX.out
 all_goals exact ⟨rfl, Zb (hco.less (by omega))⟩
theorem ZeI (y : Nat) (hy : y < 4) (h : Hid (Co W0 w c b s l (n))) :
  CX 148 #[.pointer (some ⟨c, 0, none⟩), .int .i64 (y : Int)] w (.tuple #[]) fun w' => Hid (Co W0 w' c b (s.quick y) l n) := by
 obtain ⟨X, hf, HF, HG, HX, HM⟩ := h.out.hif
 have HF0 := HF
 have hg := HG.out
 have hX := HX.out
 have hO := HM.out
 have a1 : s.r.a < 256 := hf.r.a
 have f1 : s.r.f < 256 := hf.r.f
 have y1 : (y : Int) % 4 = ((y : Nat) : Int) := by omega
 have y2 : (y : Int) < 4 := by omega
 obtain ⟨A, hA⟩ : ∃ x, Hid (tV y s.r.a (s.r.f % 2) = x) := ⟨_, rfl⟩
 obtain ⟨B, hB⟩ : ∃ x, Hid (Yj y s.r.a (s.r.f % 2) s.r.f = x) := ⟨_, rfl⟩
 have A1 : A < 256 := by rw [← hA.out]; exact JL _ _ _ a1 (by omega)
 have B1 : B < 256 := by rw [← hB.out]; exact Y5 _ _ _ _
 have E : s.quick y = (s.setA A).setF B := by
  unfold Cs.quick Cs.quickA Cs.quickF
  rw [← hA.out, ← hB.out]
  congr 1
  ·congr 1; exact if_pos hy
  ·exact if_pos hy
 rw [E]
 clear E h hf hg hX hO
 go_enter Tryz.func148, Tryz.ntmps148
 go_upto_region 2 with fail
 have c0 := HM.out.cells_at .z 0 _ rfl
 have c1 := HM.out.cells_at .z 1 _ rfl
 have fr0 := (HM.out.at_ .z).free 0
 have fr1 := (HM.out.at_ .z).free 1
 have HM2 := Zb ((HM.out.of_cell 0 (v := .int .u8 (A : Int)) .z).of_cell 1 (v := .int .u8 (B : Int)) .z).drew
 clear HM
 go_region_with (first | (go_at_call 201; (with_reducible refine (Zex _ y s.r.a s.r.f _ A B y1 a1 f1 (Zb rfl) hA hB _).mono ?_); rintro e w' ⟨rfl, rfl⟩))
 all_goals go_wp2_with fail
 all_goals go_end0
 all_goals exact ⟨rfl, Zb (Co.made (s := (s.setA A).setF B) HM2.out HG.out HX.out (Cs.setF_fits (Cs.setA_fits HF.out A1) B1))⟩
theorem ZeJ (y : Nat) (hy : y = 4) (h : Hid (Co W0 w c b s l (n))) :
  CX 148 #[.pointer (some ⟨c, 0, none⟩), .int .i64 4] w (.tuple #[]) fun w' => Hid (Co W0 w' c b (s.quick y) l n) := by
 obtain ⟨X, hf, HF, HG, HX, HM⟩ := h.out.hif
 have HF0 := HF
 have hg := HG.out
 have hX := HX.out
 have hO := HM.out
 have a1 : s.r.a < 256 := hf.r.a
 have f1 : s.r.f < 256 := hf.r.f
 subst hy
 obtain ⟨A, hA⟩ : ∃ x, Hid (KS s.r.a s.r.f = x) := ⟨_, rfl⟩
 obtain ⟨B, hB⟩ : ∃ x, Hid (Um s.r.a s.r.f = x) := ⟨_, rfl⟩
 have A1 : A < 256 := by rw [← hA.out]; exact Uo _ _
 have B1 : B < 256 := by rw [← hB.out]; exact j7 _ _
 have E : s.quick 4 = (s.setA A).setF B := by
  unfold Cs.quick Cs.quickA Cs.quickF
  rw [← hA.out, ← hB.out]
  rfl
 rw [E]
 clear E h hf hg hX hO
 go_enter Tryz.func148, Tryz.ntmps148
 go_upto_region 4 with fail
 have c0 := HM.out.cells_at .z 0 _ rfl
 have c1 := HM.out.cells_at .z 1 _ rfl
 have fr0 := (HM.out.at_ .z).free 0
 have fr1 := (HM.out.at_ .z).free 1
 have HM2 := Zb ((HM.out.of_cell 0 (v := .int .u8 (A : Int)) .z).of_cell 1 (v := .int .u8 (B : Int)) .z).drew
 clear HM
 go_region_with (first | (go_at_call 202; (with_reducible refine (Zkr s.r.a s.r.f A B a1 f1 hA hB _).mono ?_); rintro e w' ⟨rfl, rfl⟩))
 all_goals go_wp2_with fail
 all_goals go_end0
 all_goals exact ⟨rfl, Zb (Co.made (s := (s.setA A).setF B) HM2.out HG.out HX.out (Cs.setF_fits (Cs.setA_fits HF.out A1) B1))⟩
theorem ZeK (y : Nat) (hy : 4 < y ∧ y < 8) (h : Hid (Co W0 w c b s l (n))) :
  CX 148 #[.pointer (some ⟨c, 0, none⟩), .int .i64 (y : Int)] w (.tuple #[]) fun w' => Hid (Co W0 w' c b (s.quick y) l n) := by
 obtain ⟨X, hf, HF, HG, HX, HM⟩ := h.out.hif
 have HF0 := HF
 have hg := HG.out
 have hX := HX.out
 have hO := HM.out
 have a1 : s.r.a < 256 := hf.r.a
 have f1 : s.r.f < 256 := hf.r.f
 have y2 : ((y : Int) < 4) = False := by simp; omega
 have y3 : ((y : Int) == 4) = false := by simp; omega
 have y5 : IntKind.i64.wrap ((y : Int) - 5) = (y : Int) - 5 := by rw [IntKind.wrap_i64]; omega
 have y6 : (y : Int) < 8 := by omega
 obtain ⟨A, hA⟩ : ∃ x, Hid (KT ((y : Int) - 5) s.r.a = x) := ⟨_, rfl⟩
 obtain ⟨B, hB⟩ : ∃ x, Hid (Vk ((y : Int) - 5) s.r.a s.r.f = x) := ⟨_, rfl⟩
 have A1 : A < 256 := by rw [← hA.out]; exact K2 _ _ a1
 have B1 : B < 256 := by rw [← hB.out]; exact K3 _ _ _ f1
 have E : s.quick y = (s.setA A).setF B := by
  unfold Cs.quick Cs.quickA Cs.quickF
  rw [← hA.out, ← hB.out]
  congr 1
  ·congr 1; exact (if_neg (by omega)).trans (if_neg (by omega))
  ·exact (if_neg (by omega)).trans (if_neg (by omega))
 rw [E]
 clear E h hf hg hX hO
 go_enter Tryz.func148, Tryz.ntmps148
 go_upto_region 0 with fail
 have c0 := HM.out.cells_at .z 0 _ rfl
 have c1 := HM.out.cells_at .z 1 _ rfl
 have fr0 := (HM.out.at_ .z).free 0
 have fr1 := (HM.out.at_ .z).free 1
 have HM2 := Zb ((HM.out.of_cell 0 (v := .int .u8 (A : Int)) .z).of_cell 1 (v := .int .u8 (B : Int)) .z).drew
 clear HM
 go_region_with (first | (go_at_call 203; (with_reducible refine (Zhk ((y : Int) - 5) s.r.a s.r.f A B a1 f1 hA hB _).mono ?_); rintro e w' ⟨rfl, rfl⟩))
 all_goals go_wp2_with fail
 all_goals go_end0
 all_goals exact ⟨rfl, Zb (Co.made (s := (s.setA A).setF B) HM2.out HG.out HX.out (Cs.setF_fits (Cs.setA_fits HF.out A1) B1))⟩
theorem Cs.point_f (s : Cs) : s.point.r.f = s.r.f := by unfold Cs.point; split <;> rfl
theorem UD (i : Int) (hi : ¬ i = 6) (h : Hid (Co W0 w c b s l (n + 1))) :
  CX 144 #[.pointer (some ⟨c, 0, none⟩), .int .i64 i, Value.func (Fn.func 145) #[] #[]] w (.int .i64 4) fun w' => Hid (Co W0 w' c b (s.count i false) l n) := by
 obtain ⟨X, hf, HF, HG, HX, HM⟩ := h.out.hif
 have HF0 := HF
 have hg := HG.out
 have hX := HX.out
 have hO := HM.out
 have i1 : (i != 6) = true := by simp; exact hi
 have v1 : s.one i < 256 := Cs.one_lt hf _
 have f1 : s.r.f < 256 := hf.r.f
 obtain ⟨A, hA⟩ : ∃ x, Hid (Yw (s.one i) 1 0 = x) := ⟨_, rfl⟩
 obtain ⟨B, hB⟩ : ∃ x, Hid (YE (Yp (s.one i) 1 0) s.r.f = x) := ⟨_, rfl⟩
 have A1 : A < 256 := by rw [← hA.out]; exact YL _ _ _
 have B1 : B < 256 := by rw [← hB.out]; exact YB _ _
 have E : s.count i false = (s.setOne i A).setF B := by rw [← hA.out, ← hB.out]; exact if_neg hi
 rw [E]
 clear E hi h hf hg hX hO
 go_enter Tryz.func144, Tryz.ntmps144
 go_upto_region 2 with fail
 (refine Zo HM (by kernel_rfl) (by kernel_rfl) ?_; (try simp only [Act.put, Ze, Zc, Zd]); repeat ((fail_if_success (with_reducible refine wpQuiet_nil ?_)); first | go_big_quiet_skip | (go_big_quiet_want; first | (refine a15 ?_; go_big_quiet_op; go_big_quiet_on) | (refine a16 ?_; go_big_quiet_op; go_big_quiet_on) | ((with_reducible apply Zh); exact fun w => rfl; (focus (go_simp; all_goals with_reducible rfl)); (intro wq HQ; first | (with_reducible exact Vq .z HQ HF.out _) | (with_reducible exact (Zbw (s.one i) s.r.f A B v1 f1 hA hB _).mono fun _ _ ⟨he, hw⟩ => ⟨he, hw ▸ Below.refl _ _⟩)); go_big_quiet_op; go_big_quiet_on) | (go_big_quiet_op; go_big_quiet_on) | (go_big_quiet_op; refine ⟨_, fun _ _ => rfl, ?_⟩; go_big_quiet_on))))
 refine wpQuiet_nil ?_
 intro w' HM'
 clear HM; have HM := HM'; clear HM'
 go_wp2_with (first | refine cG ?_ | (refine cP ?_; clear HM; intro w' HM) | (go_at_call 70; have hco := Za HM HG HX; (with_reducible refine (YS _ _ A1 hco).mono (coK ?_)); clear hco HM HF HG HX; intro w' X HF HG HX HM))
 go_ret
 have hco := Co.ok HM.out HG.out HX.out
 exact ⟨rfl, Zb (hco.less (by omega))⟩
theorem J3 (hp : s.px = 0) (h : Hid (Co W0 w c b s l (n + 3))) :
  CX 144 #[.pointer (some ⟨c, 0, none⟩), .int .i64 6, Value.func (Fn.func 145) #[] #[]] w (.int .i64 11) fun w' => Hid (Co W0 w' c b (s.count 6 false) l n) := by
 obtain ⟨X, hf, HF, HG, HX, HM⟩ := h.out.hif
 have HF0 := HF
 have hg := HG.out
 have hX := HX.out
 have hO := HM.out
 have P1 : s.pointV < 65536 := Cs.pointV_lt hf
 have v1 : s.point.m s.pointV < 256 := by rw [Cs.point_m]; exact hf.m _
 have f1 : s.r.f < 256 := hf.r.f
 have f2 : s.point.r.f = s.r.f := Cs.point_f s
 obtain ⟨A, hA⟩ : ∃ x, Hid (Yw (s.m s.pointV) 1 0 = x) := ⟨_, rfl⟩
 obtain ⟨B, hB⟩ : ∃ x, Hid (YE (Yp (s.m s.pointV) 1 0) s.r.f = x) := ⟨_, rfl⟩
 have A1 : A < 256 := by rw [← hA.out]; exact YL _ _ _
 have B1 : B < 256 := by rw [← hB.out]; exact YB _ _
 have E : s.count 6 false = ((s.point.rd s.pointV).wr s.pointV A).setF B := by rw [← hA.out, ← hB.out]; rfl
 rw [E]
 have hA : Hid (Yw (s.point.m s.pointV) 1 0 = A) := by rw [Cs.point_m]; exact hA
 have hB : Hid (YE (Yp (s.point.m s.pointV) 1 0) s.point.r.f = B) := by rw [Cs.point_m, f2]; exact hB
 rw [← f2] at f1
 have hp' : ((s.px : Int) == 0) = true := by simp; omega
 have hpp : s.point.px = 0 := by rw [Cs.point_px]; exact hp
 clear E f2 h hf hg hX hO
 have hmRead : ∀ w : World, (method 296 29 (.pointer (some ⟨b, 0, none⟩)) "Read").run Tryz.prog w = .ok (247, .pointer (some ⟨b, 0, none⟩)) w := fun _ => by kernel_rfl
 have hmWrite : ∀ w : World, (method 296 29 (.pointer (some ⟨b, 0, none⟩)) "Write").run Tryz.prog w = .ok (248, .pointer (some ⟨b, 0, none⟩)) w := fun _ => by kernel_rfl
 go_enter Tryz.func144, Tryz.ntmps144
 go_upto_region 7 with (first | refine cG ?_ | (refine cP ?_; clear HM; intro w' HM) | (go_at_call 65; have hco := Za HM HG HX; (with_reducible refine (ZN hco).mono (coK ?_)); clear hco HM HF HG HX; intro w' X HF HG HX HM))
 have HM' := Zb HM.out.drew
 clear HM; have HM := HM'; clear HM'
 have c29 := HM.out.cells_at .z 29 _ rfl
 have c1 := HM.out.cells_at .z 1 _ rfl
 go_region_with (first | (go_at_call 247; have hco := Za HM HG HX; (with_reducible refine (YZ _ P1 hco).mono (coK ?_)); clear hco HM HF HG HX; intro w' X HF HG HX HM; have c29 := HM.out.cells_at .z 29 _ rfl; have c1 := HM.out.cells_at .z 1 _ rfl) | (go_at_call 145; (with_reducible refine (Zbw (s.point.m s.pointV) s.point.r.f A B v1 f1 hA hB _).mono ?_); rintro e w' ⟨rfl, rfl⟩))
 all_goals go_wp2_with (first | refine cG ?_ | (refine cP ?_; clear HM; intro w' HM) | (go_at_call 248; have hco := Za HM HG HX; (with_reducible refine (Y9 _ _ P1 A1 hco).mono (coK ?_)); clear hco HM HF HG HX; intro w' X HF HG HX HM) | (go_at_call 150; (with_reducible refine (Yx (s := ((s.point.rd s.pointV).wr s.pointV A).setF B) .z HM (Cs.setF_fits HF.out B1) hpp 11 19).mono ?_); rintro e w' ⟨rfl, hb⟩; replace HM := Zb (HM.out.call hb); clear hb))
 all_goals go_ret
 all_goals have hco := Co.ok HM.out HG.out HX.out
 all_goals exact ⟨rfl, Zb (hco.less (by omega))⟩
theorem KB (hp : ¬ s.px = 0) (h : Hid (Co W0 w c b s l (n + 3))) :
  CX 144 #[.pointer (some ⟨c, 0, none⟩), .int .i64 6, Value.func (Fn.func 145) #[] #[]] w (.int .i64 19) fun w' => Hid (Co W0 w' c b (s.count 6 false) l n) := by
 obtain ⟨X, hf, HF, HG, HX, HM⟩ := h.out.hif
 have HF0 := HF
 have hg := HG.out
 have hX := HX.out
 have hO := HM.out
 have P1 : s.pointV < 65536 := Cs.pointV_lt hf
 have v1 : s.point.m s.pointV < 256 := by rw [Cs.point_m]; exact hf.m _
 have f1 : s.r.f < 256 := hf.r.f
 have f2 : s.point.r.f = s.r.f := Cs.point_f s
 obtain ⟨A, hA⟩ : ∃ x, Hid (Yw (s.m s.pointV) 1 0 = x) := ⟨_, rfl⟩
 obtain ⟨B, hB⟩ : ∃ x, Hid (YE (Yp (s.m s.pointV) 1 0) s.r.f = x) := ⟨_, rfl⟩
 have A1 : A < 256 := by rw [← hA.out]; exact YL _ _ _
 have B1 : B < 256 := by rw [← hB.out]; exact YB _ _
 have E : s.count 6 false = ((s.point.rd s.pointV).wr s.pointV A).setF B := by rw [← hA.out, ← hB.out]; rfl
 rw [E]
 have hA : Hid (Yw (s.point.m s.pointV) 1 0 = A) := by rw [Cs.point_m]; exact hA
 have hB : Hid (YE (Yp (s.point.m s.pointV) 1 0) s.point.r.f = B) := by rw [Cs.point_m, f2]; exact hB
 rw [← f2] at f1
 have hp' : ((s.px : Int) == 0) = false := by simp; omega
 have hpp : ¬ s.point.px = 0 := by rw [Cs.point_px]; exact hp
 clear E f2 h hf hg hX hO
 have hmRead : ∀ w : World, (method 296 29 (.pointer (some ⟨b, 0, none⟩)) "Read").run Tryz.prog w = .ok (247, .pointer (some ⟨b, 0, none⟩)) w := fun _ => by kernel_rfl
 have hmWrite : ∀ w : World, (method 296 29 (.pointer (some ⟨b, 0, none⟩)) "Write").run Tryz.prog w = .ok (248, .pointer (some ⟨b, 0, none⟩)) w := fun _ => by kernel_rfl
 go_enter Tryz.func144, Tryz.ntmps144
 go_upto_region 7 with (first | refine cG ?_ | (refine cP ?_; clear HM; intro w' HM) | (go_at_call 65; have hco := Za HM HG HX; (with_reducible refine (ZN hco).mono (coK ?_)); clear hco HM HF HG HX; intro w' X HF HG HX HM))
 have HM' := Zb HM.out.drew
 clear HM; have HM := HM'; clear HM'
 have c29 := HM.out.cells_at .z 29 _ rfl
 have c1 := HM.out.cells_at .z 1 _ rfl
 go_region_with (first | (go_at_call 247; have hco := Za HM HG HX; (with_reducible refine (YZ _ P1 hco).mono (coK ?_)); clear hco HM HF HG HX; intro w' X HF HG HX HM; have c29 := HM.out.cells_at .z 29 _ rfl; have c1 := HM.out.cells_at .z 1 _ rfl) | (go_at_call 145; (with_reducible refine (Zbw (s.point.m s.pointV) s.point.r.f A B v1 f1 hA hB _).mono ?_); rintro e w' ⟨rfl, rfl⟩))
 all_goals go_wp2_with (first | refine cG ?_ | (refine cP ?_; clear HM; intro w' HM) | (go_at_call 248; have hco := Za HM HG HX; (with_reducible refine (Y9 _ _ P1 A1 hco).mono (coK ?_)); clear hco HM HF HG HX; intro w' X HF HG HX HM) | (go_at_call 150; (with_reducible refine (YR (s := ((s.point.rd s.pointV).wr s.pointV A).setF B) .z HM (Cs.setF_fits HF.out B1) hpp 11 19).mono ?_); rintro e w' ⟨rfl, hb⟩; replace HM := Zb (HM.out.call hb); clear hb))
 all_goals go_ret
 all_goals have hco := Co.ok HM.out HG.out HX.out
 all_goals exact ⟨rfl, Zb (hco.less (by omega))⟩
theorem UE (i : Int) (hi : ¬ i = 6) (h : Hid (Co W0 w c b s l (n + 1))) :
  CX 144 #[.pointer (some ⟨c, 0, none⟩), .int .i64 i, Value.func (Fn.func 146) #[] #[]] w (.int .i64 4) fun w' => Hid (Co W0 w' c b (s.count i true) l n) := by
 obtain ⟨X, hf, HF, HG, HX, HM⟩ := h.out.hif
 have HF0 := HF
 have hg := HG.out
 have hX := HX.out
 have hO := HM.out
 have i1 : (i != 6) = true := by simp; exact hi
 have v1 : s.one i < 256 := Cs.one_lt hf _
 have f1 : s.r.f < 256 := hf.r.f
 obtain ⟨A, hA⟩ : ∃ x, Hid (ZY (s.one i) 1 0 = x) := ⟨_, rfl⟩
 obtain ⟨B, hB⟩ : ∃ x, Hid (YE (ZU (s.one i) 1 0) s.r.f = x) := ⟨_, rfl⟩
 have A1 : A < 256 := by rw [← hA.out]; exact Yn _ _ _
 have B1 : B < 256 := by rw [← hB.out]; exact YB _ _
 have E : s.count i true = (s.setOne i A).setF B := by rw [← hA.out, ← hB.out]; exact if_neg hi
 rw [E]
 clear E hi h hf hg hX hO
 go_enter Tryz.func144, Tryz.ntmps144
 go_upto_region 2 with fail
 (refine Zo HM (by kernel_rfl) (by kernel_rfl) ?_; (try simp only [Act.put, Ze, Zc, Zd]); repeat ((fail_if_success (with_reducible refine wpQuiet_nil ?_)); first | go_big_quiet_skip | (go_big_quiet_want; first | (refine a15 ?_; go_big_quiet_op; go_big_quiet_on) | (refine a16 ?_; go_big_quiet_op; go_big_quiet_on) | ((with_reducible apply Zh); exact fun w => rfl; (focus (go_simp; all_goals with_reducible rfl)); (intro wq HQ; first | (with_reducible exact Vq .z HQ HF.out _) | (with_reducible exact (Zbx (s.one i) s.r.f A B v1 f1 hA hB _).mono fun _ _ ⟨he, hw⟩ => ⟨he, hw ▸ Below.refl _ _⟩)); go_big_quiet_op; go_big_quiet_on) | (go_big_quiet_op; go_big_quiet_on) | (go_big_quiet_op; refine ⟨_, fun _ _ => rfl, ?_⟩; go_big_quiet_on))))
 refine wpQuiet_nil ?_
 intro w' HM'
 clear HM; have HM := HM'; clear HM'
 go_wp2_with (first | refine cG ?_ | (refine cP ?_; clear HM; intro w' HM) | (go_at_call 70; have hco := Za HM HG HX; (with_reducible refine (YS _ _ A1 hco).mono (coK ?_)); clear hco HM HF HG HX; intro w' X HF HG HX HM))
 go_ret
 have hco := Co.ok HM.out HG.out HX.out
 exact ⟨rfl, Zb (hco.less (by omega))⟩
theorem J4 (hp : s.px = 0) (h : Hid (Co W0 w c b s l (n + 3))) :
  CX 144 #[.pointer (some ⟨c, 0, none⟩), .int .i64 6, Value.func (Fn.func 146) #[] #[]] w (.int .i64 11) fun w' => Hid (Co W0 w' c b (s.count 6 true) l n) := by
 obtain ⟨X, hf, HF, HG, HX, HM⟩ := h.out.hif
 have HF0 := HF
 have hg := HG.out
 have hX := HX.out
 have hO := HM.out
 have P1 : s.pointV < 65536 := Cs.pointV_lt hf
 have v1 : s.point.m s.pointV < 256 := by rw [Cs.point_m]; exact hf.m _
 have f1 : s.r.f < 256 := hf.r.f
 have f2 : s.point.r.f = s.r.f := Cs.point_f s
 obtain ⟨A, hA⟩ : ∃ x, Hid (ZY (s.m s.pointV) 1 0 = x) := ⟨_, rfl⟩
 obtain ⟨B, hB⟩ : ∃ x, Hid (YE (ZU (s.m s.pointV) 1 0) s.r.f = x) := ⟨_, rfl⟩
 have A1 : A < 256 := by rw [← hA.out]; exact Yn _ _ _
 have B1 : B < 256 := by rw [← hB.out]; exact YB _ _
 have E : s.count 6 true = ((s.point.rd s.pointV).wr s.pointV A).setF B := by rw [← hA.out, ← hB.out]; rfl
 rw [E]
 have hA : Hid (ZY (s.point.m s.pointV) 1 0 = A) := by rw [Cs.point_m]; exact hA
 have hB : Hid (YE (ZU (s.point.m s.pointV) 1 0) s.point.r.f = B) := by rw [Cs.point_m, f2]; exact hB
 rw [← f2] at f1
 have hp' : ((s.px : Int) == 0) = true := by simp; omega
 have hpp : s.point.px = 0 := by rw [Cs.point_px]; exact hp
 clear E f2 h hf hg hX hO
 have hmRead : ∀ w : World, (method 296 29 (.pointer (some ⟨b, 0, none⟩)) "Read").run Tryz.prog w = .ok (247, .pointer (some ⟨b, 0, none⟩)) w := fun _ => by kernel_rfl
 have hmWrite : ∀ w : World, (method 296 29 (.pointer (some ⟨b, 0, none⟩)) "Write").run Tryz.prog w = .ok (248, .pointer (some ⟨b, 0, none⟩)) w := fun _ => by kernel_rfl
 go_enter Tryz.func144, Tryz.ntmps144
 go_upto_region 7 with (first | refine cG ?_ | (refine cP ?_; clear HM; intro w' HM) | (go_at_call 65; have hco := Za HM HG HX; (with_reducible refine (ZN hco).mono (coK ?_)); clear hco HM HF HG HX; intro w' X HF HG HX HM))
 have HM' := Zb HM.out.drew
 clear HM; have HM := HM'; clear HM'
 have c29 := HM.out.cells_at .z 29 _ rfl
 have c1 := HM.out.cells_at .z 1 _ rfl
 go_region_with (first | (go_at_call 247; have hco := Za HM HG HX; (with_reducible refine (YZ _ P1 hco).mono (coK ?_)); clear hco HM HF HG HX; intro w' X HF HG HX HM; have c29 := HM.out.cells_at .z 29 _ rfl; have c1 := HM.out.cells_at .z 1 _ rfl) | (go_at_call 146; (with_reducible refine (Zbx (s.point.m s.pointV) s.point.r.f A B v1 f1 hA hB _).mono ?_); rintro e w' ⟨rfl, rfl⟩))
 all_goals go_wp2_with (first | refine cG ?_ | (refine cP ?_; clear HM; intro w' HM) | (go_at_call 248; have hco := Za HM HG HX; (with_reducible refine (Y9 _ _ P1 A1 hco).mono (coK ?_)); clear hco HM HF HG HX; intro w' X HF HG HX HM) | (go_at_call 150; (with_reducible refine (Yx (s := ((s.point.rd s.pointV).wr s.pointV A).setF B) .z HM (Cs.setF_fits HF.out B1) hpp 11 19).mono ?_); rintro e w' ⟨rfl, hb⟩; replace HM := Zb (HM.out.call hb); clear hb))
 all_goals go_ret
 all_goals have hco := Co.ok HM.out HG.out HX.out
 all_goals exact ⟨rfl, Zb (hco.less (by omega))⟩
theorem KC (hp : ¬ s.px = 0) (h : Hid (Co W0 w c b s l (n + 3))) :
  CX 144 #[.pointer (some ⟨c, 0, none⟩), .int .i64 6, Value.func (Fn.func 146) #[] #[]] w (.int .i64 19) fun w' => Hid (Co W0 w' c b (s.count 6 true) l n) := by
 obtain ⟨X, hf, HF, HG, HX, HM⟩ := h.out.hif
 have HF0 := HF
 have hg := HG.out
 have hX := HX.out
 have hO := HM.out
 have P1 : s.pointV < 65536 := Cs.pointV_lt hf
 have v1 : s.point.m s.pointV < 256 := by rw [Cs.point_m]; exact hf.m _
 have f1 : s.r.f < 256 := hf.r.f
 have f2 : s.point.r.f = s.r.f := Cs.point_f s
 obtain ⟨A, hA⟩ : ∃ x, Hid (ZY (s.m s.pointV) 1 0 = x) := ⟨_, rfl⟩
 obtain ⟨B, hB⟩ : ∃ x, Hid (YE (ZU (s.m s.pointV) 1 0) s.r.f = x) := ⟨_, rfl⟩
 have A1 : A < 256 := by rw [← hA.out]; exact Yn _ _ _
 have B1 : B < 256 := by rw [← hB.out]; exact YB _ _
 have E : s.count 6 true = ((s.point.rd s.pointV).wr s.pointV A).setF B := by rw [← hA.out, ← hB.out]; rfl
 rw [E]
 have hA : Hid (ZY (s.point.m s.pointV) 1 0 = A) := by rw [Cs.point_m]; exact hA
 have hB : Hid (YE (ZU (s.point.m s.pointV) 1 0) s.point.r.f = B) := by rw [Cs.point_m, f2]; exact hB
 rw [← f2] at f1
 have hp' : ((s.px : Int) == 0) = false := by simp; omega
 have hpp : ¬ s.point.px = 0 := by rw [Cs.point_px]; exact hp
 clear E f2 h hf hg hX hO
 have hmRead : ∀ w : World, (method 296 29 (.pointer (some ⟨b, 0, none⟩)) "Read").run Tryz.prog w = .ok (247, .pointer (some ⟨b, 0, none⟩)) w := fun _ => by kernel_rfl
 have hmWrite : ∀ w : World, (method 296 29 (.pointer (some ⟨b, 0, none⟩)) "Write").run Tryz.prog w = .ok (248, .pointer (some ⟨b, 0, none⟩)) w := fun _ => by kernel_rfl
 go_enter Tryz.func144, Tryz.ntmps144
 go_upto_region 7 with (first | refine cG ?_ | (refine cP ?_; clear HM; intro w' HM) | (go_at_call 65; have hco := Za HM HG HX; (with_reducible refine (ZN hco).mono (coK ?_)); clear hco HM HF HG HX; intro w' X HF HG HX HM))
 have HM' := Zb HM.out.drew
 clear HM; have HM := HM'; clear HM'
 have c29 := HM.out.cells_at .z 29 _ rfl
 have c1 := HM.out.cells_at .z 1 _ rfl
 go_region_with (first | (go_at_call 247; have hco := Za HM HG HX; (with_reducible refine (YZ _ P1 hco).mono (coK ?_)); clear hco HM HF HG HX; intro w' X HF HG HX HM; have c29 := HM.out.cells_at .z 29 _ rfl; have c1 := HM.out.cells_at .z 1 _ rfl) | (go_at_call 146; (with_reducible refine (Zbx (s.point.m s.pointV) s.point.r.f A B v1 f1 hA hB _).mono ?_); rintro e w' ⟨rfl, rfl⟩))
 all_goals go_wp2_with (first | refine cG ?_ | (refine cP ?_; clear HM; intro w' HM) | (go_at_call 248; have hco := Za HM HG HX; (with_reducible refine (Y9 _ _ P1 A1 hco).mono (coK ?_)); clear hco HM HF HG HX; intro w' X HF HG HX HM) | (go_at_call 150; (with_reducible refine (YR (s := ((s.point.rd s.pointV).wr s.pointV A).setF B) .z HM (Cs.setF_fits HF.out B1) hpp 11 19).mono ?_); rintro e w' ⟨rfl, hb⟩; replace HM := Zb (HM.out.call hb); clear hb))
 all_goals go_ret
 all_goals have hco := Co.ok HM.out HG.out HX.out
 all_goals exact ⟨rfl, Zb (hco.less (by omega))⟩
theorem Wt (i : Int) (hi : ¬ i = 6) (h : Hid (Co W0 w c b s l (n + 2))) :
  CX 147 #[.pointer (some ⟨c, 0, none⟩), .int .i64 i] w (.int .i64 7) fun w' => Hid (Co W0 w' c b (s.next.setOne i s.nextV) l n) := by
 obtain ⟨X, hf, HF, HG, HX, HM⟩ := h.out.hif
 have HF0 := HF
 have hg := HG.out
 have hX := HX.out
 have hO := HM.out
 have i1 : (i != 6) = true := by simp; exact hi
 have v1 : s.nextV < 256 := hf.m _
 clear hi h hf hg hX hO
 go_enter Tryz.func147, Tryz.ntmps147
 go_wp2_with (first | refine cG ?_ | (refine cP ?_; clear HM; intro w' HM) | (go_at_call 62; have hco := Za HM HG HX; (with_reducible refine (Yy hco).mono (coK ?_)); clear hco HM HF HG HX; intro w' X HF HG HX HM) | (go_at_call 70; have hco := Za HM HG HX; (with_reducible refine (YS _ _ v1 hco).mono (coK ?_)); clear hco HM HF HG HX; intro w' X HF HG HX HM))
 go_ret
 have hco := Co.ok HM.out HG.out HX.out
 exact ⟨rfl, Zb (hco.less (by omega))⟩
theorem UF (hp : s.px = 0) (h : Hid (Co W0 w c b s l (n + 3))) :
  CX 147 #[.pointer (some ⟨c, 0, none⟩), .int .i64 6] w (.int .i64 10) fun w' => Hid (Co W0 w' c b (s.point.next.wr s.pointV s.point.nextV) l n) := by
 obtain ⟨X, hf, HF, HG, HX, HM⟩ := h.out.hif
 have HF0 := HF
 have hg := HG.out
 have hX := HX.out
 have hO := HM.out
 have P1 : s.pointV < 65536 := Cs.pointV_lt hf
 have v1 : s.point.nextV < 256 := by show s.point.m _ < 256; rw [Cs.point_m]; exact hf.m _
 have hp' : ((s.px : Int) == 0) = true := by simp; omega
 have hpp : s.point.next.px = 0 := by show s.point.px = 0; rw [Cs.point_px]; exact hp
 clear h hf hg hX hO
 have hmWrite : ∀ w : World, (method 296 29 (.pointer (some ⟨b, 0, none⟩)) "Write").run Tryz.prog w = .ok (248, .pointer (some ⟨b, 0, none⟩)) w := fun _ => by kernel_rfl
 go_enter Tryz.func147, Tryz.ntmps147
 go_upto_region 5 with (first | refine cG ?_ | (refine cP ?_; clear HM; intro w' HM) | (go_at_call 65; have hco := Za HM HG HX; (with_reducible refine (ZN hco).mono (coK ?_)); clear hco HM HF HG HX; intro w' X HF HG HX HM))
 have HM' := Zb HM.out.drew
 clear HM; have HM := HM'; clear HM'
 have c29 := HM.out.cells_at .z 29 _ rfl
 go_region_with (first | (go_at_call 62; have hco := Za HM HG HX; (with_reducible refine (Yy hco).mono (coK ?_)); clear hco HM HF HG HX; intro w' X HF HG HX HM; have c29 := HM.out.cells_at .z 29 _ rfl) | (go_at_call 248; have hco := Za HM HG HX; (with_reducible refine (Y9 _ _ P1 v1 hco).mono (coK ?_)); clear hco HM HF HG HX; intro w' X HF HG HX HM; have c29 := HM.out.cells_at .z 29 _ rfl))
 all_goals go_wp2_with (first | refine cG ?_ | (refine cP ?_; clear HM; intro w' HM) | (go_at_call 150; (with_reducible refine (Yx (s := s.point.next.wr s.pointV s.point.nextV) .z HM HF.out hpp 10 15).mono ?_); rintro e w' ⟨rfl, hb⟩; replace HM := Zb (HM.out.call hb); clear hb))
 all_goals go_ret
 all_goals have hco := Co.ok HM.out HG.out HX.out
 all_goals exact ⟨rfl, Zb (hco.less (by omega))⟩
theorem Wu (hp : ¬ s.px = 0) (h : Hid (Co W0 w c b s l (n + 3))) :
  CX 147 #[.pointer (some ⟨c, 0, none⟩), .int .i64 6] w (.int .i64 15) fun w' => Hid (Co W0 w' c b (s.point.next.wr s.pointV s.point.nextV) l n) := by
 obtain ⟨X, hf, HF, HG, HX, HM⟩ := h.out.hif
 have HF0 := HF
 have hg := HG.out
 have hX := HX.out
 have hO := HM.out
 have P1 : s.pointV < 65536 := Cs.pointV_lt hf
 have v1 : s.point.nextV < 256 := by show s.point.m _ < 256; rw [Cs.point_m]; exact hf.m _
 have hp' : ((s.px : Int) == 0) = false := by simp; omega
 have hpp : ¬ s.point.next.px = 0 := by show ¬ s.point.px = 0; rw [Cs.point_px]; exact hp
 clear h hf hg hX hO
 have hmWrite : ∀ w : World, (method 296 29 (.pointer (some ⟨b, 0, none⟩)) "Write").run Tryz.prog w = .ok (248, .pointer (some ⟨b, 0, none⟩)) w := fun _ => by kernel_rfl
 go_enter Tryz.func147, Tryz.ntmps147
 go_upto_region 5 with (first | refine cG ?_ | (refine cP ?_; clear HM; intro w' HM) | (go_at_call 65; have hco := Za HM HG HX; (with_reducible refine (ZN hco).mono (coK ?_)); clear hco HM HF HG HX; intro w' X HF HG HX HM))
 have HM' := Zb HM.out.drew
 clear HM; have HM := HM'; clear HM'
 have c29 := HM.out.cells_at .z 29 _ rfl
 go_region_with (first | (go_at_call 62; have hco := Za HM HG HX; (with_reducible refine (Yy hco).mono (coK ?_)); clear hco HM HF HG HX; intro w' X HF HG HX HM; have c29 := HM.out.cells_at .z 29 _ rfl) | (go_at_call 248; have hco := Za HM HG HX; (with_reducible refine (Y9 _ _ P1 v1 hco).mono (coK ?_)); clear hco HM HF HG HX; intro w' X HF HG HX HM; have c29 := HM.out.cells_at .z 29 _ rfl))
 all_goals go_wp2_with (first | refine cG ?_ | (refine cP ?_; clear HM; intro w' HM) | (go_at_call 150; (with_reducible refine (YR (s := s.point.next.wr s.pointV s.point.nextV) .z HM HF.out hpp 10 15).mono ?_); rintro e w' ⟨rfl, hb⟩; replace HM := Zb (HM.out.call hb); clear hb))
 all_goals go_ret
 all_goals have hco := Co.ok HM.out HG.out HX.out
 all_goals exact ⟨rfl, Zb (hco.less (by omega))⟩
end
end Go.Proofs.YtgdeeiimkhjfiaaGreatDoor
