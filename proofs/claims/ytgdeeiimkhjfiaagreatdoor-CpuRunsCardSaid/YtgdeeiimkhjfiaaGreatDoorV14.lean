import Derived.Test.YtgdeeiimkhjfiaaGreatDoorV13
set_option maxRecDepth 100000
set_option maxHeartbeats 6400000
namespace Go.Proofs.YtgdeeiimkhjfiaaGreatDoor
open Go.RowKit
section
variable {W0 w : World} {x b tq n c : Nat} {s : Cs} {ix : Bool} {pg : Int} {l : Zj}
theorem Rg.setPair_af (r : Rg) (n : Int) (v : Nat) (h : n = 5 ∨ n = 6 ∨ n = 2 ∨ n = 1) : (r.setPair n v).a = r.a ∧ (r.setPair n v).f = r.f ∧ (r.setPair n v).b = r.b ∧ (r.setPair n v).c = r.c ∧ (r.setPair n v).wz = r.wz := by
 rcases h with rfl | rfl | rfl | rfl <;> exact ⟨rfl, rfl, rfl, rfl, rfl⟩
theorem Cs.shift_af (s : Cs) (i : Int) (k : Nat) (h : i = 1 ∨ i = 2) : (s.shift i k).r.a = s.r.a ∧ (s.shift i k).r.f = s.r.f ∧ (s.shift i k).r.b = s.r.b ∧ (s.shift i k).r.c = s.r.c ∧ (s.shift i k).r.wz = s.r.wz := by
 refine Rg.setPair_af _ _ _ ?_
 rcases h with rfl | rfl
 ·exact .inr (.inr (.inr rfl))
 ·show ZT s.px = 5 ∨ ZT s.px = 6 ∨ ZT s.px = 2 ∨ ZT s.px = 1
  rcases zM s.px with h | h | h <;> simp [h]
theorem Cs.pair0 (s : Cs) : s.pair 0 = s.r.b * 256 + s.r.c := rfl
theorem Cs.less_af (s : Cs) : s.less.r.a = s.r.a ∧ s.less.r.f = s.r.f := ⟨rfl, rfl⟩
theorem jm (k : Nat) (hk : k < 256) (h : Hid (Co W0 w c b s l (n + 2))) :
  CX 185 #[.pointer (some ⟨c, 0, none⟩), .int .u8 (k : Int)] w (.bool s.manyLoadOn) fun w' => Hid (Co W0 w' c b (s.manyLoad k) l n) := by
 obtain ⟨X, hf, HF, HG, HX, HM⟩ := h.out.hif
 have HF0 := HF
 have hg := HG.out
 have hX := HX.out
 have hO := HM.out
 have p2 : s.pair 2 < 65536 := Cs.pair_lt hf _
 obtain ⟨v, hv⟩ : ∃ x, Hid (s.m (s.pair 2) = x) := ⟨_, rfl⟩
 have v1 : v < 256 := by rw [← hv.out]; exact hf.m _
 have p1 : (s.rd (s.pair 2)).pair 1 < 65536 := Cs.pair_lt (s := s) hf _
 obtain ⟨L, hL⟩ : ∃ x, Hid (((((s.rd (s.pair 2)).wr ((s.rd (s.pair 2)).pair 1) v).shift 2 k).shift 1 k).lessV = x) := ⟨_, rfl⟩
 obtain ⟨P, hP⟩ : ∃ x, Hid (decide (L ≠ 0) = x) := ⟨_, rfl⟩
 obtain ⟨R, hR⟩ : ∃ x, Hid (Wh ((((s.rd (s.pair 2)).wr ((s.rd (s.pair 2)).pair 1) v).shift 2 k).shift 1 k).less.r.a v ((((s.rd (s.pair 2)).wr ((s.rd (s.pair 2)).pair 1) v).shift 2 k).shift 1 k).less.r.f P = x) := ⟨_, rfl⟩
 have R1 : R < 256 := by rw [← hR.out]; exact yc _ _ _ _
 have k1 := Cs.shift_af (((s.rd (s.pair 2)).wr ((s.rd (s.pair 2)).pair 1) v).shift 2 k) 1 k (.inl rfl)
 have k2 := Cs.shift_af ((s.rd (s.pair 2)).wr ((s.rd (s.pair 2)).pair 1) v) 2 k (.inr rfl)
 have E1 : ((((s.rd (s.pair 2)).wr ((s.rd (s.pair 2)).pair 1) v).shift 2 k).shift 1 k).lessV = s.lessV := by unfold Cs.lessV; rw [Cs.pair0, Cs.pair0, k1.2.2.1, k1.2.2.2.1, k2.2.2.1, k2.2.2.2.1]
 have E2 : s.manyLoadOn = P := by rw [← hP.out, ← hL.out, E1]; rfl
 have E3 : ((((s.rd (s.pair 2)).wr ((s.rd (s.pair 2)).pair 1) v).shift 2 k).shift 1 k).less.r.a = s.r.a := k1.1.trans k2.1
 have E4 : ((((s.rd (s.pair 2)).wr ((s.rd (s.pair 2)).pair 1) v).shift 2 k).shift 1 k).less.r.f = s.r.f := k1.2.1.trans k2.2.1
 have E : s.manyLoad k = ((((s.rd (s.pair 2)).wr ((s.rd (s.pair 2)).pair 1) v).shift 2 k).shift 1 k).less.setF R := by rw [← hR.out, E3, E4, ← hP.out, ← hL.out, E1, ← hv.out]; rfl
 rw [E, E2]
 have hP2 : Hid (P = true ↔ L ≠ 0) := Zb (by rw [← hP.out]; simp)
 have e1 : ((L : Int) != 0) = P := by rw [← hP.out, Bool.eq_iff_iff]; simp
 clear E E1 E2 E3 E4 k1 k2 h hf hg hX hO
 have hmRead : ∀ w : World, (method 296 29 (.pointer (some ⟨b, 0, none⟩)) "Read").run Tryz.prog w = .ok (247, .pointer (some ⟨b, 0, none⟩)) w := fun _ => by kernel_rfl
 have hmWrite : ∀ w : World, (method 296 29 (.pointer (some ⟨b, 0, none⟩)) "Write").run Tryz.prog w = .ok (248, .pointer (some ⟨b, 0, none⟩)) w := fun _ => by kernel_rfl
 go_enter Tryz.func185, Tryz.ntmps185
 go_upto_region 1 with fail
 (refine Zk 8 HM (by kernel_rfl) (by kernel_rfl) (by kernel_rfl) ?_; simp only [List.take_succ_cons, List.take_zero, List.drop_succ_cons, List.drop_zero]; (try simp only [Act.put, Ze, Zc, Zd]); repeat ((fail_if_success (with_reducible refine wpQuiet_nil ?_)); first | go_big_quiet_skip | (go_big_quiet_want; first | (refine a15 ?_; go_big_quiet_op; go_big_quiet_on) | (refine a16 ?_; go_big_quiet_op; go_big_quiet_on) | ((with_reducible apply Zh); exact fun w => rfl; (focus (go_simp; all_goals with_reducible rfl)); (intro wq HQ; first | (with_reducible exact ZB .z HQ HF.out _)); go_big_quiet_op; go_big_quiet_on) | (go_big_quiet_op; go_big_quiet_on) | (go_big_quiet_op; refine ⟨_, fun _ _ => rfl, ?_⟩; go_big_quiet_on))))
 refine wpQuiet_nil ?_
 intro w' HM'
 clear HM; have HM := HM'; clear HM'
 go_upto_region 2 with (first | refine cG ?_ | (refine cP ?_; clear HM; intro w' HM) | (go_at_call 247; have hco := Za HM HG HX; (with_reducible refine (YZ _ p2 hco).mono (coK ?_)); clear hco HM HF HG HX; intro w' X HF HG HX HM; rw [hv.out]))
 (refine Zk 9 HM (by kernel_rfl) (by kernel_rfl) (by kernel_rfl) ?_; simp only [List.take_succ_cons, List.take_zero, List.drop_succ_cons, List.drop_zero]; (try simp only [Act.put, Ze, Zc, Zd]); repeat ((fail_if_success (with_reducible refine wpQuiet_nil ?_)); first | go_big_quiet_skip | (go_big_quiet_want; first | (refine a15 ?_; go_big_quiet_op; go_big_quiet_on) | (refine a16 ?_; go_big_quiet_op; go_big_quiet_on) | ((with_reducible apply Zh); exact fun w => rfl; (focus (go_simp; all_goals with_reducible rfl)); (intro wq HQ; first | (with_reducible exact ZB .z HQ HF.out _)); go_big_quiet_op; go_big_quiet_on) | (go_big_quiet_op; go_big_quiet_on) | (go_big_quiet_op; refine ⟨_, fun _ _ => rfl, ?_⟩; go_big_quiet_on))))
 refine wpQuiet_nil ?_
 intro w' HM'
 clear HM; have HM := HM'; clear HM'
 go_upto_region 6 with (first | refine cG ?_ | (refine cP ?_; clear HM; intro w' HM) | (go_at_call 248; have hco := Za HM HG HX; (with_reducible refine (Y9 _ _ p1 v1 hco).mono (coK ?_)); clear hco HM HF HG HX; intro w' X HF HG HX HM) | (go_at_call 220; have hco := Za HM HG HX; (with_reducible refine (J5 2 k hk hco).mono (coK ?_)); clear hco HM HF HG HX; intro w' X HF HG HX HM) | (go_at_call 220; have hco := Za HM HG HX; (with_reducible refine (J5 1 k hk hco).mono (coK ?_)); clear hco HM HF HG HX; intro w' X HF HG HX HM) | (go_at_call 221; have hco := Za HM HG HX; (with_reducible refine (Zce hco).mono (coK ?_)); clear hco HM HF HG HX; intro w' X HF HG HX HM; rw [hL.out]))
 (refine Zk 14 HM (by kernel_rfl) (by kernel_rfl) (by kernel_rfl) ?_; simp only [List.take_succ_cons, List.take_zero, List.drop_succ_cons, List.drop_zero]; (try simp only [Act.put, Ze, Zc, Zd]); repeat ((fail_if_success (with_reducible refine wpQuiet_nil ?_)); first | go_big_quiet_skip | (go_big_quiet_want; first | (refine a15 ?_; go_big_quiet_op; go_big_quiet_on) | (refine a16 ?_; go_big_quiet_op; go_big_quiet_on) | ((with_reducible apply Zh); exact fun w => rfl; (focus (go_simp; all_goals with_reducible rfl)); (intro wq HQ; first | (with_reducible exact (Zhs _ v _ L R P HF.out.r.f hP2 hR _).mono fun _ _ ⟨he, hw⟩ => ⟨he, hw ▸ Below.refl _ _⟩)); go_big_quiet_op; go_big_quiet_on) | (go_big_quiet_op; go_big_quiet_on) | (go_big_quiet_op; refine ⟨_, fun _ _ => rfl, ?_⟩; go_big_quiet_on))))
 refine wpQuiet_nil ?_
 intro w' HM'
 clear HM; have HM := HM'; clear HM'
 go_wp2_with (first | refine cG ?_ | (refine cP ?_; clear HM; intro w' HM))
 go_ret
 have hco := Co.ok HM.out HG.out HX.out
 exact ⟨rfl, Zb hco⟩
theorem jn (k : Nat) (hk : k < 256) (h : Hid (Co W0 w c b s l (n + 2))) :
  CX 186 #[.pointer (some ⟨c, 0, none⟩), .int .u8 (k : Int)] w (.bool s.manySeekOn) fun w' => Hid (Co W0 w' c b (s.manySeek k) l n) := by
 obtain ⟨X, hf, HF, HG, HX, HM⟩ := h.out.hif
 have HF0 := HF
 have hg := HG.out
 have hX := HX.out
 have hO := HM.out
 have p2 : s.pair 2 < 65536 := Cs.pair_lt hf _
 obtain ⟨v, hv⟩ : ∃ x, Hid (s.m (s.pair 2) = x) := ⟨_, rfl⟩
 have v1 : v < 256 := by rw [← hv.out]; exact hf.m _
 obtain ⟨a, ha⟩ : ∃ x, Hid (s.r.a = x) := ⟨_, rfl⟩
 have a1 : a < 256 := by rw [← ha.out]; exact hf.r.a
 obtain ⟨f, hf'⟩ : ∃ x, Hid (s.r.f = x) := ⟨_, rfl⟩
 have f1 : f < 256 := by rw [← hf'.out]; exact hf.r.f
 obtain ⟨L, hL⟩ : ∃ x, Hid ((((s.rd (s.pair 2)).shift 2 k).setWZ (wMove ((s.rd (s.pair 2)).shift 2 k).r.wz k)).lessV = x) := ⟨_, rfl⟩
 obtain ⟨P, hP⟩ : ∃ x, Hid (decide (L ≠ 0) = x) := ⟨_, rfl⟩
 obtain ⟨R, hR⟩ : ∃ x, Hid (KK a v f P = x) := ⟨_, rfl⟩
 obtain ⟨O, hO'⟩ : ∃ x, Hid (JM a v P = x) := ⟨_, rfl⟩
 have R1 : R < 256 := by rw [← hR.out]; exact Wj _ _ _ _
 have k2 := Cs.shift_af (s.rd (s.pair 2)) 2 k (.inr rfl)
 have E1 : (((s.rd (s.pair 2)).shift 2 k).setWZ (wMove ((s.rd (s.pair 2)).shift 2 k).r.wz k)).lessV = s.lessV := by show dn1 (((s.rd (s.pair 2)).shift 2 k).pair 0) = _; unfold Cs.lessV; rw [Cs.pair0, Cs.pair0, k2.2.2.1, k2.2.2.2.1]
 have E2 : s.manySeekOn = O := by rw [← hO'.out, ← hP.out, ← hL.out, E1, ← hv.out, ← ha.out]; rfl
 have E : s.manySeek k = (((s.rd (s.pair 2)).shift 2 k).setWZ (wMove ((s.rd (s.pair 2)).shift 2 k).r.wz k)).less.setF R := by rw [← hR.out, ← hP.out, ← hL.out, E1, ← hv.out, ← ha.out, ← hf'.out, k2.2.2.2.2]; rfl
 rw [E, E2]
 have hP2 : Hid (P = true ↔ L ≠ 0) := Zb (by rw [← hP.out]; simp)
 have ka : (((s.rd (s.pair 2)).shift 2 k).setWZ (wMove ((s.rd (s.pair 2)).shift 2 k).r.wz k)).r.a = a := k2.1.trans ha.out
 have kf : (((s.rd (s.pair 2)).shift 2 k).setWZ (wMove ((s.rd (s.pair 2)).shift 2 k).r.wz k)).r.f = f := k2.2.1.trans hf'.out
 have KA := Zb ka
 have KF := Zb kf
 clear E E1 E2 k2 ka kf h hf hg hX hO
 have hmRead : ∀ w : World, (method 296 29 (.pointer (some ⟨b, 0, none⟩)) "Read").run Tryz.prog w = .ok (247, .pointer (some ⟨b, 0, none⟩)) w := fun _ => by kernel_rfl
 go_enter Tryz.func186, Tryz.ntmps186
 go_upto_region 1 with fail
 (refine Zk 8 HM (by kernel_rfl) (by kernel_rfl) (by kernel_rfl) ?_; simp only [List.take_succ_cons, List.take_zero, List.drop_succ_cons, List.drop_zero]; (try simp only [Act.put, Ze, Zc, Zd]); repeat ((fail_if_success (with_reducible refine wpQuiet_nil ?_)); first | go_big_quiet_skip | (go_big_quiet_want; first | (refine a15 ?_; go_big_quiet_op; go_big_quiet_on) | (refine a16 ?_; go_big_quiet_op; go_big_quiet_on) | ((with_reducible apply Zh); exact fun w => rfl; (focus (go_simp; all_goals with_reducible rfl)); (intro wq HQ; first | (with_reducible exact ZB .z HQ HF.out _)); go_big_quiet_op; go_big_quiet_on) | (go_big_quiet_op; go_big_quiet_on) | (go_big_quiet_op; refine ⟨_, fun _ _ => rfl, ?_⟩; go_big_quiet_on))))
 refine wpQuiet_nil ?_
 intro w' HM'
 clear HM; have HM := HM'; clear HM'
 go_upto_region 4 with (first | refine cG ?_ | (refine cP ?_; clear HM; intro w' HM) | (go_at_call 247; have hco := Za HM HG HX; (with_reducible refine (YZ _ p2 hco).mono (coK ?_)); clear hco HM HF HG HX; intro w' X HF HG HX HM; rw [hv.out]) | (go_at_call 220; have hco := Za HM HG HX; (with_reducible refine (J5 2 k hk hco).mono (coK ?_)); clear hco HM HF HG HX; intro w' X HF HG HX HM) | (go_at_call 127; (with_reducible refine (Y8 _ _ _ HF.out.r.wz hk (Zb rfl) _).mono ?_); rintro e w' ⟨rfl, rfl⟩))
 have HM' := Zb HM.out.drew
 clear HM; have HM := HM'; clear HM'
 have c0 := (HM.out.cells_at .z 0 _ rfl).trans (congrArg (fun x : Nat => some (Value.int .u8 (x : Int))) KA.out)
 have c1 := (HM.out.cells_at .z 1 _ rfl).trans (congrArg (fun x : Nat => some (Value.int .u8 (x : Int))) KF.out)
 go_region_held3 (fun w' => w'.cell? ⟨c, 0, none⟩ = some (.int .u8 (a : Int)) ∧ w'.cell? ⟨c, 1, none⟩ = some (.int .u8 (f : Int))) (first | assumption | (simp only [*]; trivial) | simp [*]) (first | (go_at_call 221; have hco := Za HM HG HX; (with_reducible refine (Zce hco).mono (coK ?_)); clear hco HM HF HG HX; intro w' X HF HG HX HM; rw [hL.out]; have c0 := (HM.out.cells_at .z 0 _ rfl).trans (congrArg (fun x : Nat => some (Value.int .u8 (x : Int))) ((Cs.less_af _).1.trans KA.out)); have c1 := (HM.out.cells_at .z 1 _ rfl).trans (congrArg (fun x : Nat => some (Value.int .u8 (x : Int))) ((Cs.less_af _).2.trans KF.out))) | (go_at_call 223; (with_reducible refine (Zht a v f L R P O a1 v1 f1 hP2 hR hO' _).mono ?_); rintro e w' ⟨rfl, rfl⟩))
 all_goals go_wp2_with (first | refine cG ?_ | (refine cP ?_; clear HM; intro w' HM))
 all_goals go_ret
 all_goals have hco := Co.ok HM.out HG.out HX.out
 all_goals exact ⟨rfl, Zb (hco.less (by omega))⟩
theorem Zcf (k : Nat) (hk : k < 256) (h : Hid (Co W0 w c b s l (n + 2))) :
  CX 187 #[.pointer (some ⟨c, 0, none⟩), .int .u8 (k : Int)] w (.bool (decide (s.decB ≠ 0))) fun w' => Hid (Co W0 w' c b (s.manyIn k) l n) := by
 obtain ⟨X, hf, HF, HG, HX, HM⟩ := h.out.hif
 have HF0 := HF
 have hg := HG.out
 have hX := HX.out
 have hO := HM.out
 obtain ⟨p, hp⟩ : ∃ x, Hid (s.pair 0 = x) := ⟨_, rfl⟩
 have p1 : p < 65536 := by rw [← hp.out]; exact Cs.pair_lt hf _
 obtain ⟨v, hv⟩ : ∃ x, Hid ((s.setWZ (wMove p k)).ipV p 13 = x) := ⟨_, rfl⟩
 have v1 : v < 256 := by rw [← hv.out]; exact Nat.mod_lt _ (by decide)
 have q1 : ((s.setWZ (wMove p k)).ip p 13).pair 2 < 65536 := Cs.pair_lt (s := s) hf _
 obtain ⟨d, hd⟩ : ∃ x, Hid (s.decB = x) := ⟨_, rfl⟩
 have d1 : d < 256 := by rw [← hd.out]; exact Nat.mod_lt _ (by decide)
 have k2 := Cs.shift_af ((((s.setWZ (wMove p k)).ip p 13).wr (((s.setWZ (wMove p k)).ip p 13).pair 2) v).setB d) 2 k (.inr rfl)
 obtain ⟨M, hM⟩ : ∃ x, Hid ((s.r.c + k) % 256 = x) := ⟨_, rfl⟩
 have M1 : M < 256 := by rw [← hM.out]; exact Nat.mod_lt _ (by decide)
 obtain ⟨R, hR⟩ : ∃ x, Hid (Ku v M (((((s.setWZ (wMove p k)).ip p 13).wr (((s.setWZ (wMove p k)).ip p 13).pair 2) v).setB d).shift 2 k).r.b = x) := ⟨_, rfl⟩
 have R1 : R < 256 := by rw [← hR.out]; exact yd _ _ _
 obtain ⟨P, hP⟩ : ∃ x, Hid (decide (d ≠ 0) = x) := ⟨_, rfl⟩
 have kb : (((((s.setWZ (wMove p k)).ip p 13).wr (((s.setWZ (wMove p k)).ip p 13).pair 2) v).setB d).shift 2 k).r.b = d := k2.2.2.1
 have kc : (((((s.setWZ (wMove p k)).ip p 13).wr (((s.setWZ (wMove p k)).ip p 13).pair 2) v).setB d).shift 2 k).r.c = s.r.c := k2.2.2.2.1
 have E : s.manyIn k = (((((s.setWZ (wMove p k)).ip p 13).wr (((s.setWZ (wMove p k)).ip p 13).pair 2) v).setB d).shift 2 k).setF R := by rw [← hR.out, kb, ← hM.out, ← hd.out, ← hv.out, ← hp.out]; rfl
 rw [E, hd.out, hP.out]
 have e1 : IntKind.u8.wrap (((((s.setWZ (wMove p k)).ip p 13).wr (((s.setWZ (wMove p k)).ip p 13).pair 2) v).r.b : Int) - 1) = (d : Int) := by rw [← hd.out]; unfold Cs.decB; show ((s.r.b : Int) - 1) % 256 = _; have := hf.r.b; omega
 have e2 : IntKind.u8.wrap (((((((s.setWZ (wMove p k)).ip p 13).wr (((s.setWZ (wMove p k)).ip p 13).pair 2) v).setB d).shift 2 k).r.c : Int) + (k : Int)) = (M : Int) := by rw [kc, ← hM.out]; show ((s.r.c : Int) + (k : Int)) % 256 = _; omega
 have e3 : ((((((((s.setWZ (wMove p k)).ip p 13).wr (((s.setWZ (wMove p k)).ip p 13).pair 2) v).setB d).shift 2 k).setF R).r.b : Int) != 0) = P := by show (((((((s.setWZ (wMove p k)).ip p 13).wr (((s.setWZ (wMove p k)).ip p 13).pair 2) v).setB d).shift 2 k).r.b : Int) != 0) = P; rw [kb, ← hP.out, Bool.eq_iff_iff]; simp
 clear E k2 kb kc h hf hg hX hO
 have hmIn : ∀ w : World, (method 296 29 (.pointer (some ⟨b, 0, none⟩)) "In").run Tryz.prog w = .ok (245, .pointer (some ⟨b, 0, none⟩)) w := fun _ => by kernel_rfl
 have hmWrite : ∀ w : World, (method 296 29 (.pointer (some ⟨b, 0, none⟩)) "Write").run Tryz.prog w = .ok (248, .pointer (some ⟨b, 0, none⟩)) w := fun _ => by kernel_rfl
 go_enter Tryz.func187, Tryz.ntmps187
 go_upto_region 4 with (first | refine cG ?_ | (refine cP ?_; clear HM; intro w' HM) | (go_at_call 67; (with_reducible refine (ZB .z HM HF.out _).mono ?_); rintro e w' ⟨rfl, hb⟩; rw [hp.out]; replace HM := Zb (HM.out.call hb); clear hb) | (go_at_call 127; (with_reducible refine (Y8 p k _ p1 hk (Zb rfl) _).mono ?_); rintro e w' ⟨rfl, rfl⟩) | (go_at_call 245; have hco := Za HM HG HX; (with_reducible refine (ZhH p p1 hco).mono (coK ?_)); clear hco HM HF HG HX; intro w' X HF HG HX HM; rw [hv.out]))
 (refine Zk 9 HM (by kernel_rfl) (by kernel_rfl) (by kernel_rfl) ?_; simp only [List.take_succ_cons, List.take_zero, List.drop_succ_cons, List.drop_zero]; (try simp only [Act.put, Ze, Zc, Zd]); repeat ((fail_if_success (with_reducible refine wpQuiet_nil ?_)); first | go_big_quiet_skip | (go_big_quiet_want; first | (refine a15 ?_; go_big_quiet_op; go_big_quiet_on) | (refine a16 ?_; go_big_quiet_op; go_big_quiet_on) | ((with_reducible apply Zh); exact fun w => rfl; (focus (go_simp; all_goals with_reducible rfl)); (intro wq HQ; first | (with_reducible exact ZB .z HQ HF.out _)); go_big_quiet_op; go_big_quiet_on) | (go_big_quiet_op; go_big_quiet_on) | (go_big_quiet_op; refine ⟨_, fun _ _ => rfl, ?_⟩; go_big_quiet_on))))
 refine wpQuiet_nil ?_
 intro w' HM'
 clear HM; have HM := HM'; clear HM'
 go_upto_region 7 with (first | refine cG ?_ | (refine cP ?_; clear HM; intro w' HM) | (go_at_call 248; have hco := Za HM HG HX; (with_reducible refine (Y9 _ _ q1 v1 hco).mono (coK ?_)); clear hco HM HF HG HX; intro w' X HF HG HX HM) | (go_at_call 220; have hco := Za HM HG HX; (with_reducible refine (J5 2 k hk hco).mono (coK ?_)); clear hco HM HF HG HX; intro w' X HF HG HX HM))
 (refine Zk 15 HM (by kernel_rfl) (by kernel_rfl) (by kernel_rfl) ?_; simp only [List.take_succ_cons, List.take_zero, List.drop_succ_cons, List.drop_zero]; (try simp only [Act.put, Ze, Zc, Zd]); repeat ((fail_if_success (with_reducible refine wpQuiet_nil ?_)); first | go_big_quiet_skip | (go_big_quiet_want; first | (refine a15 ?_; go_big_quiet_op; go_big_quiet_on) | (refine a16 ?_; go_big_quiet_op; go_big_quiet_on) | ((with_reducible apply Zh); exact fun w => rfl; (focus (go_simp; all_goals with_reducible rfl)); (intro wq HQ; first | (with_reducible exact (ZbJ v M _ R v1 M1 HF.out.r.b hR _).mono fun _ _ ⟨he, hw⟩ => ⟨he, hw ▸ Below.refl _ _⟩)); go_big_quiet_op; go_big_quiet_on) | (go_big_quiet_op; go_big_quiet_on) | (go_big_quiet_op; refine ⟨_, fun _ _ => rfl, ?_⟩; go_big_quiet_on))))
 refine wpQuiet_nil ?_
 intro w' HM'
 clear HM; have HM := HM'; clear HM'
 go_wp2_with (first | refine cG ?_ | (refine cP ?_; clear HM; intro w' HM))
 go_ret
 have hco := Co.ok HM.out HG.out HX.out
 exact ⟨rfl, Zb hco⟩
theorem Zak (k : Nat) (hk : k < 256) (h : Hid (Co W0 w c b s l (n + 2))) :
  CX 188 #[.pointer (some ⟨c, 0, none⟩), .int .u8 (k : Int)] w (.bool (decide (s.decB ≠ 0))) fun w' => Hid (Co W0 w' c b (s.manyOut k) l n) := by
 obtain ⟨X, hf, HF, HG, HX, HM⟩ := h.out.hif
 have HF0 := HF
 have hg := HG.out
 have hX := HX.out
 have hO := HM.out
 have p2 : s.pair 2 < 65536 := Cs.pair_lt hf _
 obtain ⟨v, hv⟩ : ∃ x, Hid (s.m (s.pair 2) = x) := ⟨_, rfl⟩
 have v1 : v < 256 := by rw [← hv.out]; exact hf.m _
 obtain ⟨d, hd⟩ : ∃ x, Hid (s.decB = x) := ⟨_, rfl⟩
 have d1 : d < 256 := by rw [← hd.out]; exact Nat.mod_lt _ (by decide)
 obtain ⟨p, hp⟩ : ∃ x, Hid (((s.rd (s.pair 2)).setB d).pair 0 = x) := ⟨_, rfl⟩
 have p1 : p < 65536 := by rw [← hp.out]; exact Cs.pair_lt (Cs.setB_fits hf d1) _
 have k2 := Cs.shift_af (((s.rd (s.pair 2)).setB d).op p v 13) 2 k (.inr rfl)
 have kb : (((((s.rd (s.pair 2)).setB d).op p v 13).shift 2 k).setWZ (wMove p k)).r.b = d := k2.2.2.1
 obtain ⟨R, hR⟩ : ∃ x, Hid (Ku v (((((s.rd (s.pair 2)).setB d).op p v 13).shift 2 k).setWZ (wMove p k)).r.l (((((s.rd (s.pair 2)).setB d).op p v 13).shift 2 k).setWZ (wMove p k)).r.b = x) := ⟨_, rfl⟩
 have R1 : R < 256 := by rw [← hR.out]; exact yd _ _ _
 obtain ⟨P, hP⟩ : ∃ x, Hid (decide (d ≠ 0) = x) := ⟨_, rfl⟩
 have E : s.manyOut k = (((((s.rd (s.pair 2)).setB d).op p v 13).shift 2 k).setWZ (wMove p k)).setF R := by rw [← hR.out, kb, ← hp.out, ← hd.out, ← hv.out]; rfl
 rw [E, hd.out, hP.out]
 have e1 : IntKind.u8.wrap (((s.rd (s.pair 2)).r.b : Int) - 1) = (d : Int) := by rw [← hd.out]; unfold Cs.decB; show ((s.r.b : Int) - 1) % 256 = _; have := hf.r.b; omega
 have e3 : ((((((((s.rd (s.pair 2)).setB d).op p v 13).shift 2 k).setWZ (wMove p k)).setF R).r.b : Int) != 0) = P := by show (((((((s.rd (s.pair 2)).setB d).op p v 13).shift 2 k).setWZ (wMove p k)).r.b : Int) != 0) = P; rw [kb, ← hP.out, Bool.eq_iff_iff]; simp
 clear E k2 kb h hf hg hX hO
 have hmRead : ∀ w : World, (method 296 29 (.pointer (some ⟨b, 0, none⟩)) "Read").run Tryz.prog w = .ok (247, .pointer (some ⟨b, 0, none⟩)) w := fun _ => by kernel_rfl
 have hmOut : ∀ w : World, (method 296 29 (.pointer (some ⟨b, 0, none⟩)) "Out").run Tryz.prog w = .ok (246, .pointer (some ⟨b, 0, none⟩)) w := fun _ => by kernel_rfl
 go_enter Tryz.func188, Tryz.ntmps188
 go_upto_region 1 with fail
 (refine Zk 8 HM (by kernel_rfl) (by kernel_rfl) (by kernel_rfl) ?_; simp only [List.take_succ_cons, List.take_zero, List.drop_succ_cons, List.drop_zero]; (try simp only [Act.put, Ze, Zc, Zd]); repeat ((fail_if_success (with_reducible refine wpQuiet_nil ?_)); first | go_big_quiet_skip | (go_big_quiet_want; first | (refine a15 ?_; go_big_quiet_op; go_big_quiet_on) | (refine a16 ?_; go_big_quiet_op; go_big_quiet_on) | ((with_reducible apply Zh); exact fun w => rfl; (focus (go_simp; all_goals with_reducible rfl)); (intro wq HQ; first | (with_reducible exact ZB .z HQ HF.out _)); go_big_quiet_op; go_big_quiet_on) | (go_big_quiet_op; go_big_quiet_on) | (go_big_quiet_op; refine ⟨_, fun _ _ => rfl, ?_⟩; go_big_quiet_on))))
 refine wpQuiet_nil ?_
 intro w' HM'
 clear HM; have HM := HM'; clear HM'
 go_upto_region 7 with (first | refine cG ?_ | (refine cP ?_; clear HM; intro w' HM) | (go_at_call 247; have hco := Za HM HG HX; (with_reducible refine (YZ _ p2 hco).mono (coK ?_)); clear hco HM HF HG HX; intro w' X HF HG HX HM; rw [hv.out]) | (go_at_call 67; (with_reducible refine (ZB .z HM (Cs.setB_fits HF.out d1) _).mono ?_); rintro e w' ⟨rfl, hb⟩; rw [hp.out]; replace HM := Zb (HM.out.call hb); clear hb) | (go_at_call 246; have hco := Za HM HG HX; (with_reducible refine (ZhG p v p1 v1 hco).mono (coK ?_)); clear hco HM HF HG HX; intro w' X HF HG HX HM) | (go_at_call 220; have hco := Za HM HG HX; (with_reducible refine (J5 2 k hk hco).mono (coK ?_)); clear hco HM HF HG HX; intro w' X HF HG HX HM) | (go_at_call 127; (with_reducible refine (Y8 p k _ p1 hk (Zb rfl) _).mono ?_); rintro e w' ⟨rfl, rfl⟩))
 (refine Zk 13 HM (by kernel_rfl) (by kernel_rfl) (by kernel_rfl) ?_; simp only [List.take_succ_cons, List.take_zero, List.drop_succ_cons, List.drop_zero]; (try simp only [Act.put, Ze, Zc, Zd]); repeat ((fail_if_success (with_reducible refine wpQuiet_nil ?_)); first | go_big_quiet_skip | (go_big_quiet_want; first | (refine a15 ?_; go_big_quiet_op; go_big_quiet_on) | (refine a16 ?_; go_big_quiet_op; go_big_quiet_on) | ((with_reducible apply Zh); exact fun w => rfl; (focus (go_simp; all_goals with_reducible rfl)); (intro wq HQ; first | (with_reducible exact (ZbJ v _ _ R v1 HF.out.r.l HF.out.r.b hR _).mono fun _ _ ⟨he, hw⟩ => ⟨he, hw ▸ Below.refl _ _⟩)); go_big_quiet_op; go_big_quiet_on) | (go_big_quiet_op; go_big_quiet_on) | (go_big_quiet_op; refine ⟨_, fun _ _ => rfl, ?_⟩; go_big_quiet_on))))
 refine wpQuiet_nil ?_
 intro w' HM'
 clear HM; have HM := HM'; clear HM'
 go_wp2_with (first | refine cG ?_ | (refine cP ?_; clear HM; intro w' HM))
 go_ret
 have hco := Co.ok HM.out HG.out HX.out
 exact ⟨rfl, Zb hco⟩
end
end Go.Proofs.YtgdeeiimkhjfiaaGreatDoor
