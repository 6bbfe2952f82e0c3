import Derived.Test.YtgdeeiimkhjfiaaGreatDoorV16
set_option maxRecDepth 100000
set_option maxHeartbeats 6400000
namespace Go.Proofs.YtgdeeiimkhjfiaaGreatDoor
open Go.RowKit
section
variable {W0 w : World} {x b tq n c : Nat} {s : Cs} {ix : Bool} {pg : Int} {l : Zj}
theorem Cs.changedV_lt (_h : s.Fits) (x y v : Nat) (hy : y < 8) (hv : v < 256) : s.changedV x y v < 256 := by
 unfold Cs.changedV
 split
 ·exact JL _ _ _ hv (by omega)
 ·exact Kt _ _ _ hy hv
theorem UN (x y z p q a : Nat) (hx : x = 1) (hy : y < 8) (ha : a < 65536) (h : Hid (Co W0 w c b s l (n + 2))) :
  CX 66 #[.pointer (some ⟨c, 0, none⟩), .agg #[.int .i64 (x : Int), .int .i64 (y : Int), .int .i64 (z : Int), .int .i64 (p : Int), .int .i64 (q : Int)], .int .u16 (a : Int), .int .i64 15] w (.int .i64 12) fun w' => Hid (Co W0 w' c b ((s.rd a).setF (Jj y (s.m a) s.r.f (Zx s.r.wz))) l n) := by
 obtain ⟨X, hf, HF, HG, HX, HM⟩ := h.out.hif
 have HF0 := HF
 have hg := HG.out
 have hX := HX.out
 have hO := HM.out
 have x1 : ((x : Int) == 1) = true := by simp; omega
 have v1 : s.m a < 256 := hf.m _
 have f1 : s.r.f < 256 := hf.r.f
 have w1 : s.r.wz < 65536 := hf.r.wz
 have y1 : (y : Int) % 8 = ((y : Nat) : Int) := by omega
 obtain ⟨lo, hlo⟩ : ∃ x, Hid (s.r.wz % 256 = x) := ⟨_, rfl⟩
 obtain ⟨hi, hhi⟩ : ∃ x, Hid (Zx s.r.wz = x) := ⟨_, rfl⟩
 have hi1 : hi < 256 := by rw [← hhi.out]; exact Yd _ w1
 have h3 : Jj y (s.m a) s.r.f hi < 256 := Ux _ _ _ _
 rw [hhi.out]
 clear h hf hg hX hO
 have hmRead : ∀ w : World, (method 296 29 (.pointer (some ⟨b, 0, none⟩)) "Read").run Tryz.prog w = .ok (247, .pointer (some ⟨b, 0, none⟩)) w := fun _ => by kernel_rfl
 go_enter Tryz.func66, Tryz.ntmps66
 go_upto_region 4 with (first | refine b6 ?_ | (refine cP ?_; clear HM; intro w' HM) | (refine a4 ?_; clear HM; intro w' g' HM) | (go_at_call 247; have hco := Za (l := _ :: l) HM HG HX; (with_reducible refine (YZ _ ha hco).mono (Z2 ?_)); clear hco HM HF HG HX; intro w' X HF HG HX HM) | (go_at_call 128; (with_reducible refine (Z7 s.r.wz hi lo w1 hhi hlo _).mono ?_); rintro e w' ⟨rfl, rfl⟩))
 (refine Zk 11 HM (by kernel_rfl) (by kernel_rfl) (by kernel_rfl) ?_; simp only [List.take_succ_cons, List.take_zero, List.drop_succ_cons, List.drop_zero]; (try simp only [Act.put, Ze, Zc, Zd]); repeat ((fail_if_success (with_reducible refine wpQuiet_nil ?_)); first | go_big_quiet_skip | (go_big_quiet_want; first | (refine a15 ?_; go_big_quiet_op; go_big_quiet_on) | (refine a16 ?_; go_big_quiet_op; go_big_quiet_on) | (refine a26 ?_; go_big_quiet_op; go_big_quiet_on) | (refine a24 ?_; go_big_quiet_op; go_big_quiet_on) | ((with_reducible apply Zh); exact fun w => rfl; (focus (go_simp; all_goals with_reducible rfl)); (intro wq HQ; first | (with_reducible exact (ZbH _ y (s.m a) s.r.f hi _ y1 v1 f1 hi1 (Zb rfl) _).mono fun _ _ ⟨he, hw⟩ => ⟨he, hw ▸ Below.refl _ _⟩)); go_big_quiet_op; go_big_quiet_on) | (go_big_quiet_op; go_big_quiet_on) | (go_big_quiet_op; refine ⟨_, fun _ _ => rfl, ?_⟩; go_big_quiet_on))))
 refine wpQuiet_nil ?_
 intro w' HM'
 clear HM; have HM := HM'; clear HM'
 go_wp2_with (first | refine b6 ?_ | (refine cP ?_; clear HM; intro w' HM) | (refine a4 ?_; clear HM; intro w' g' HM))
 go_ret
 have hco := fun hf => Co.made (l := _ :: l) HM.out HG.out HX.out hf
 exact ⟨rfl, Zb ((hco (by first | with_reducible exact HF.out | (focus repeat' (first | (with_reducible first | exact HF.out | apply ftA | apply ftF | apply ftB | apply ftC | apply ftD | apply ftE | apply ftH | apply ftL | apply ftS | apply ftP | apply ftW | apply ftI | apply ftR | apply ftM | apply ftX | apply ft1 | apply ft2 | apply ftT | apply ftY | apply ftZ | apply ftr | exact Zy _ | exact ZP _ | exact Zt _ _ | exact Zm _ _ _ _ _ _ _ _ | exact Nat.mod_lt _ (by decide)) | assumption | omega | exact Nat.mod_lt _ (by decide))))).drop.less (by omega))⟩
theorem WU (x y z p q a : Nat) (hx : ¬ x = 1) (hy : y < 8) (ha : a < 65536) (h : Hid (Co W0 w c b s l (n + 2))) :
  CX 66 #[.pointer (some ⟨c, 0, none⟩), .agg #[.int .i64 (x : Int), .int .i64 (y : Int), .int .i64 (z : Int), .int .i64 (p : Int), .int .i64 (q : Int)], .int .u16 (a : Int), .int .i64 15] w (.int .i64 15) fun w' => Hid (Co W0 w' c b ((((s.rd a).changed x y (s.m a)).wr a (s.changedV x y (s.m a))).setOwn z (s.changedV x y (s.m a))) l n) := by
 obtain ⟨X, hf, HF, HG, HX, HM⟩ := h.out.hif
 have HF0 := HF
 have hg := HG.out
 have hX := HX.out
 have hO := HM.out
 have x1 : ((x : Int) == 1) = false := by simp; omega
 have v1 : s.m a < 256 := hf.m _
 have V1 : (s.rd a).changedV x y (s.m a) < 256 := Cs.changedV_lt (s := s.rd a) ⟨hf.r, hf.px, hf.m⟩ x y _ hy v1
 clear h hf hg hX hO
 have hmRead : ∀ w : World, (method 296 29 (.pointer (some ⟨b, 0, none⟩)) "Read").run Tryz.prog w = .ok (247, .pointer (some ⟨b, 0, none⟩)) w := fun _ => by kernel_rfl
 have hmWrite : ∀ w : World, (method 296 29 (.pointer (some ⟨b, 0, none⟩)) "Write").run Tryz.prog w = .ok (248, .pointer (some ⟨b, 0, none⟩)) w := fun _ => by kernel_rfl
 go_enter Tryz.func66, Tryz.ntmps66
 go_wp2_with (first | refine b6 ?_ | (refine cP ?_; clear HM; intro w' HM) | (refine a4 ?_; clear HM; intro w' g' HM) | (go_at_call 247; have hco := Za (l := _ :: l) HM HG HX; (with_reducible refine (YZ _ ha hco).mono (Z2 ?_)); clear hco HM HF HG HX; intro w' X HF HG HX HM) | (go_at_call 71; have hco := Za (l := _ :: l) HM HG HX; (with_reducible refine (KD x y z p q _ (Classical.em _) hy v1 hco).mono (Z2 ?_)); clear hco HM HF HG HX; intro w' X HF HG HX HM) | (go_at_call 248; have hco := Za (l := _ :: l) HM HG HX; (with_reducible refine (Y9 _ _ ha V1 hco).mono (Z2 ?_)); clear hco HM HF HG HX; intro w' X HF HG HX HM) | (go_at_call 129; have hco := Za (l := _ :: l) HM HG HX; (with_reducible refine (Jy _ _ V1 hco).mono (Z2 ?_)); clear hco HM HF HG HX; intro w' X HF HG HX HM))
 go_ret
 have hco := Co.ok (l := _ :: l) HM.out HG.out HX.out
 exact ⟨rfl, Zb hco.drop⟩
theorem Zcu (x y z p q a : Nat) (hy : y < 8) (ha : a < 65536) (h : Hid (Co W0 w c b s l (n + 2))) :
  CX 66 #[.pointer (some ⟨c, 0, none⟩), .agg #[.int .i64 (x : Int), .int .i64 (y : Int), .int .i64 (z : Int), .int .i64 (p : Int), .int .i64 (q : Int)], .int .u16 (a : Int), .int .i64 15] w (.int .i64 ((Cs.bitsC x 15 : Nat) : Int)) fun w' => Hid (Co W0 w' c b (s.bitsAt x y z a) l n) := by
 unfold Cs.bitsC Cs.bitsAt
 by_cases hx : x = 1
 ·rw [if_pos hx, if_pos hx]; exact UN x y z p q a hx hy ha h
 ·rw [if_neg hx, if_neg hx]; exact WU x y z p q a hx hy ha h
theorem UO (x y z p q a : Nat) (hx : x = 1) (hy : y < 8) (ha : a < 65536) (h : Hid (Co W0 w c b s l (n + 2))) :
  CX 66 #[.pointer (some ⟨c, 0, none⟩), .agg #[.int .i64 (x : Int), .int .i64 (y : Int), .int .i64 (z : Int), .int .i64 (p : Int), .int .i64 (q : Int)], .int .u16 (a : Int), .int .i64 19] w (.int .i64 16) fun w' => Hid (Co W0 w' c b ((s.rd a).setF (Jj y (s.m a) s.r.f (Zx s.r.wz))) l n) := by
 obtain ⟨X, hf, HF, HG, HX, HM⟩ := h.out.hif
 have HF0 := HF
 have hg := HG.out
 have hX := HX.out
 have hO := HM.out
 have x1 : ((x : Int) == 1) = true := by simp; omega
 have v1 : s.m a < 256 := hf.m _
 have f1 : s.r.f < 256 := hf.r.f
 have w1 : s.r.wz < 65536 := hf.r.wz
 have y1 : (y : Int) % 8 = ((y : Nat) : Int) := by omega
 obtain ⟨lo, hlo⟩ : ∃ x, Hid (s.r.wz % 256 = x) := ⟨_, rfl⟩
 obtain ⟨hi, hhi⟩ : ∃ x, Hid (Zx s.r.wz = x) := ⟨_, rfl⟩
 have hi1 : hi < 256 := by rw [← hhi.out]; exact Yd _ w1
 have h3 : Jj y (s.m a) s.r.f hi < 256 := Ux _ _ _ _
 rw [hhi.out]
 clear h hf hg hX hO
 have hmRead : ∀ w : World, (method 296 29 (.pointer (some ⟨b, 0, none⟩)) "Read").run Tryz.prog w = .ok (247, .pointer (some ⟨b, 0, none⟩)) w := fun _ => by kernel_rfl
 go_enter Tryz.func66, Tryz.ntmps66
 go_upto_region 4 with (first | refine b6 ?_ | (refine cP ?_; clear HM; intro w' HM) | (refine a4 ?_; clear HM; intro w' g' HM) | (go_at_call 247; have hco := Za (l := _ :: l) HM HG HX; (with_reducible refine (YZ _ ha hco).mono (Z2 ?_)); clear hco HM HF HG HX; intro w' X HF HG HX HM) | (go_at_call 128; (with_reducible refine (Z7 s.r.wz hi lo w1 hhi hlo _).mono ?_); rintro e w' ⟨rfl, rfl⟩))
 (refine Zk 11 HM (by kernel_rfl) (by kernel_rfl) (by kernel_rfl) ?_; simp only [List.take_succ_cons, List.take_zero, List.drop_succ_cons, List.drop_zero]; (try simp only [Act.put, Ze, Zc, Zd]); repeat ((fail_if_success (with_reducible refine wpQuiet_nil ?_)); first | go_big_quiet_skip | (go_big_quiet_want; first | (refine a15 ?_; go_big_quiet_op; go_big_quiet_on) | (refine a16 ?_; go_big_quiet_op; go_big_quiet_on) | (refine a26 ?_; go_big_quiet_op; go_big_quiet_on) | (refine a24 ?_; go_big_quiet_op; go_big_quiet_on) | ((with_reducible apply Zh); exact fun w => rfl; (focus (go_simp; all_goals with_reducible rfl)); (intro wq HQ; first | (with_reducible exact (ZbH _ y (s.m a) s.r.f hi _ y1 v1 f1 hi1 (Zb rfl) _).mono fun _ _ ⟨he, hw⟩ => ⟨he, hw ▸ Below.refl _ _⟩)); go_big_quiet_op; go_big_quiet_on) | (go_big_quiet_op; go_big_quiet_on) | (go_big_quiet_op; refine ⟨_, fun _ _ => rfl, ?_⟩; go_big_quiet_on))))
 refine wpQuiet_nil ?_
 intro w' HM'
 clear HM; have HM := HM'; clear HM'
 go_wp2_with (first | refine b6 ?_ | (refine cP ?_; clear HM; intro w' HM) | (refine a4 ?_; clear HM; intro w' g' HM))
 go_ret
 have hco := fun hf => Co.made (l := _ :: l) HM.out HG.out HX.out hf
 exact ⟨rfl, Zb ((hco (by first | with_reducible exact HF.out | (focus repeat' (first | (with_reducible first | exact HF.out | apply ftA | apply ftF | apply ftB | apply ftC | apply ftD | apply ftE | apply ftH | apply ftL | apply ftS | apply ftP | apply ftW | apply ftI | apply ftR | apply ftM | apply ftX | apply ft1 | apply ft2 | apply ftT | apply ftY | apply ftZ | apply ftr | exact Zy _ | exact ZP _ | exact Zt _ _ | exact Zm _ _ _ _ _ _ _ _ | exact Nat.mod_lt _ (by decide)) | assumption | omega | exact Nat.mod_lt _ (by decide))))).drop.less (by omega))⟩
theorem WV (x y z p q a : Nat) (hx : ¬ x = 1) (hy : y < 8) (ha : a < 65536) (h : Hid (Co W0 w c b s l (n + 2))) :
  CX 66 #[.pointer (some ⟨c, 0, none⟩), .agg #[.int .i64 (x : Int), .int .i64 (y : Int), .int .i64 (z : Int), .int .i64 (p : Int), .int .i64 (q : Int)], .int .u16 (a : Int), .int .i64 19] w (.int .i64 19) fun w' => Hid (Co W0 w' c b ((((s.rd a).changed x y (s.m a)).wr a (s.changedV x y (s.m a))).setOwn z (s.changedV x y (s.m a))) l n) := by
 obtain ⟨X, hf, HF, HG, HX, HM⟩ := h.out.hif
 have HF0 := HF
 have hg := HG.out
 have hX := HX.out
 have hO := HM.out
 have x1 : ((x : Int) == 1) = false := by simp; omega
 have v1 : s.m a < 256 := hf.m _
 have V1 : (s.rd a).changedV x y (s.m a) < 256 := Cs.changedV_lt (s := s.rd a) ⟨hf.r, hf.px, hf.m⟩ x y _ hy v1
 clear h hf hg hX hO
 have hmRead : ∀ w : World, (method 296 29 (.pointer (some ⟨b, 0, none⟩)) "Read").run Tryz.prog w = .ok (247, .pointer (some ⟨b, 0, none⟩)) w := fun _ => by kernel_rfl
 have hmWrite : ∀ w : World, (method 296 29 (.pointer (some ⟨b, 0, none⟩)) "Write").run Tryz.prog w = .ok (248, .pointer (some ⟨b, 0, none⟩)) w := fun _ => by kernel_rfl
 go_enter Tryz.func66, Tryz.ntmps66
 go_wp2_with (first | refine b6 ?_ | (refine cP ?_; clear HM; intro w' HM) | (refine a4 ?_; clear HM; intro w' g' HM) | (go_at_call 247; have hco := Za (l := _ :: l) HM HG HX; (with_reducible refine (YZ _ ha hco).mono (Z2 ?_)); clear hco HM HF HG HX; intro w' X HF HG HX HM) | (go_at_call 71; have hco := Za (l := _ :: l) HM HG HX; (with_reducible refine (KD x y z p q _ (Classical.em _) hy v1 hco).mono (Z2 ?_)); clear hco HM HF HG HX; intro w' X HF HG HX HM) | (go_at_call 248; have hco := Za (l := _ :: l) HM HG HX; (with_reducible refine (Y9 _ _ ha V1 hco).mono (Z2 ?_)); clear hco HM HF HG HX; intro w' X HF HG HX HM) | (go_at_call 129; have hco := Za (l := _ :: l) HM HG HX; (with_reducible refine (Jy _ _ V1 hco).mono (Z2 ?_)); clear hco HM HF HG HX; intro w' X HF HG HX HM))
 go_ret
 have hco := Co.ok (l := _ :: l) HM.out HG.out HX.out
 exact ⟨rfl, Zb hco.drop⟩
theorem Zcv (x y z p q a : Nat) (hy : y < 8) (ha : a < 65536) (h : Hid (Co W0 w c b s l (n + 2))) :
  CX 66 #[.pointer (some ⟨c, 0, none⟩), .agg #[.int .i64 (x : Int), .int .i64 (y : Int), .int .i64 (z : Int), .int .i64 (p : Int), .int .i64 (q : Int)], .int .u16 (a : Int), .int .i64 19] w (.int .i64 ((Cs.bitsC x 19 : Nat) : Int)) fun w' => Hid (Co W0 w' c b (s.bitsAt x y z a) l n) := by
 unfold Cs.bitsC Cs.bitsAt
 by_cases hx : x = 1
 ·rw [if_pos hx, if_pos hx]; exact UO x y z p q a hx hy ha h
 ·rw [if_neg hx, if_neg hx]; exact WV x y z p q a hx hy ha h
theorem Jz (o x y z p q : Nat) (ho : o < 256) (hx : Hid (Cs.xOf o = x)) (hy : Hid (Cs.yOf o = y)) (hz : Hid (Cs.zOf o = z)) (hp : Hid (y / 2 = p)) (hq : Hid (y % 2 = q)) (w : World) : CB 32 #[.int .u8 (o : Int)] w (.agg #[.int .i64 (x : Int), .int .i64 (y : Int), .int .i64 (z : Int), .int .i64 (p : Int), .int .i64 (q : Int)]) := by
 refine ZeH o x y z p q ho hx hy hz ?_ ?_ w
 ·have h := hp.out; rw [← hy.out] at h; exact Zb h
 ·have h := hq.out; rw [← hy.out] at h; exact Zb h
theorem Zat (hp0 : ¬ s.px = 0) (h : Hid (Co W0 w c b s l (n + 4))) :
  CX 33 #[.pointer (some ⟨c, 0, none⟩)] w (.int .i64 ((Cs.bitsC (Cs.xOf s.point.nextV) 19 : Nat) : Int)) fun w' => Hid (Co W0 w' c b (s.point.next.bitsAt (Cs.xOf s.point.nextV) (Cs.yOf s.point.nextV) (Cs.zOf s.point.nextV) s.pointV) l n) := by
 obtain ⟨X, hf, HF, HG, HX, HM⟩ := h.out.hif
 have HF0 := HF
 have hg := HG.out
 have hX := HX.out
 have hO := HM.out
 have HP : s.pointV < 65536 := by unfold Cs.pointV; rw [if_neg hp0]; exact Zt _ _
 have px0 : ((s.px : Int) != 0) = true := by simp; omega
 have m0 : s.point.nextV < 256 := by unfold Cs.point; rw [if_neg hp0]; exact hf.m _
 obtain ⟨x, hx⟩ : ∃ x, Hid (Cs.xOf s.point.nextV = x) := ⟨_, rfl⟩
 obtain ⟨y, hy⟩ : ∃ y, Hid (Cs.yOf s.point.nextV = y) := ⟨_, rfl⟩
 obtain ⟨z, hz⟩ : ∃ z, Hid (Cs.zOf s.point.nextV = z) := ⟨_, rfl⟩
 obtain ⟨p, hp⟩ : ∃ p, Hid (y / 2 = p) := ⟨_, rfl⟩
 obtain ⟨q, hq⟩ : ∃ q, Hid (y % 2 = q) := ⟨_, rfl⟩
 have x8 : x < 4 := by rw [← hx.out]; show s.point.nextV / 64 < 4; omega
 have y8 : y < 8 := by rw [← hy.out]; exact Nat.mod_lt _ (by decide)
 have z8 : z < 8 := by rw [← hz.out]; exact Nat.mod_lt _ (by decide)
 have o8 := m0
 rw [hx.out, hy.out, hz.out]
 clear hp0 h hf hg hX hO
 go_enter Tryz.func33, Tryz.ntmps33
 go_wp2_with (first | refine cG ?_ | (refine cP ?_; clear HM; intro w' HM) | (go_at_call 65; have hco := Za HM HG HX; (with_reducible refine (ZN hco).mono (coK ?_)); clear hco HM HF HG HX; intro w' X HF HG HX HM) | (go_at_call 62; have hco := Za HM HG HX; (with_reducible refine (Yy hco).mono (coK ?_)); clear hco HM HF HG HX; intro w' X HF HG HX HM) | (go_at_call 32; (with_reducible refine (Jz s.point.nextV x y z p q o8 hx hy hz hp hq _).mono ?_); rintro e w' ⟨rfl, hb⟩; replace HM := Zb (HM.out.call hb); clear hb) | (go_at_call 66; have hco := Za HM HG HX; (with_reducible refine (Zcv x y z p q _ y8 HP hco).mono (coK ?_)); clear hco HM HF HG HX; intro w' X HF HG HX HM))
 go_ret
 have hco := Co.ok HM.out HG.out HX.out
 exact ⟨rfl, Zb (hco.less (by omega))⟩
theorem Zau (hp0 : s.px = 0) (x y z : Nat) (hx : Hid (Cs.xOf s.nextV = x)) (hy : Hid (Cs.yOf s.nextV = y)) (hz : Hid (Cs.zOf s.nextV = z)) (h6 : z = 6) (h : Hid (Co W0 w c b s l (n + 4))) :
  CX 33 #[.pointer (some ⟨c, 0, none⟩)] w (.int .i64 ((Cs.bitsC x 15 : Nat) : Int)) fun w' => Hid (Co W0 w' c b (s.fetch.bitsAt x y z (s.fetch.pair 2)) l n) := by
 obtain ⟨X, hf, HF, HG, HX, HM⟩ := h.out.hif
 have HF0 := HF
 have hg := HG.out
 have hX := HX.out
 have hO := HM.out
 have px0 : ((s.px : Int) != 0) = false := by simp; omega
 obtain ⟨p, hp⟩ : ∃ p, Hid (y / 2 = p) := ⟨_, rfl⟩
 obtain ⟨q, hq⟩ : ∃ q, Hid (y % 2 = q) := ⟨_, rfl⟩
 have y8 : y < 8 := by rw [← hy.out]; exact Nat.mod_lt _ (by decide)
 have o8 : s.nextV < 256 := hf.m _
 have hff : s.fetch.Fits := Cs.tick_fits (Cs.next_fits hf)
 have z6 : ((z : Int) == 6) = true := by rw [h6]; rfl
 have p2 : s.fetch.pair 2 < 65536 := Cs.pair_lt hff _
 clear hff hp0 h6 h hf hg hX hO
 go_enter Tryz.func33, Tryz.ntmps33
 go_upto_region 5 with (first | refine b9 ?_ | (refine b10 ?_; clear HM; intro w' HM) | (go_at_call 30; have hco := Za HM HG HX; (with_reducible refine (YO hco).mono (coK ?_)); clear hco HM HF HG HX; intro w' X HF HG HX HM) | (go_at_call 32; (with_reducible refine (Jz s.nextV x y z p q o8 hx hy hz hp hq _).mono ?_); rintro e w' ⟨rfl, hb⟩; replace HM := Zb (HM.out.call hb); clear hb) | (refine b4 ?_; clear HM; intro w' g' HM))
 have HM' := Zb (HM.out.perm (List.Perm.swap _ _ _))
 clear HM; have HM := HM'; clear HM'
 go_upto_region 6 with (first | refine b6 ?_ | (refine cP ?_; clear HM; intro w' HM) | (refine a4 ?_; clear HM; intro w' g' HM))
 (refine Zk 4 HM (by kernel_rfl) (by kernel_rfl) (by kernel_rfl) ?_; simp only [List.take_succ_cons, List.take_zero, List.drop_succ_cons, List.drop_zero]; (try simp only [Act.put, Ze, Zc, Zd]); repeat ((fail_if_success (with_reducible refine wpQuiet_nil ?_)); first | go_big_quiet_skip | (go_big_quiet_want; first | (refine a15 ?_; go_big_quiet_op; go_big_quiet_on) | (refine a16 ?_; go_big_quiet_op; go_big_quiet_on) | (refine a26 ?_; go_big_quiet_op; go_big_quiet_on) | (refine a24 ?_; go_big_quiet_op; go_big_quiet_on) | ((with_reducible apply Zh); exact fun w => rfl; (focus (go_simp; all_goals with_reducible rfl)); (intro wq HQ; first | (with_reducible exact ZB .z HQ HF.out _)); go_big_quiet_op; go_big_quiet_on) | (go_big_quiet_op; go_big_quiet_on) | (go_big_quiet_op; refine ⟨_, fun _ _ => rfl, ?_⟩; go_big_quiet_on))))
 refine wpQuiet_nil ?_
 intro w' HM'
 clear HM; have HM := HM'; clear HM'
 go_wp2_with (first | refine b6 ?_ | (refine cP ?_; clear HM; intro w' HM) | (refine a4 ?_; clear HM; intro w' g' HM) | (go_at_call 66; have hco := Za (l := _ :: l) HM HG HX; (with_reducible refine (Zcu x y z p q _ y8 p2 hco).mono (Z2 ?_)); clear hco HM HF HG HX; intro w' X HF HG HX HM))
 go_ret
 have hco := Co.ok (l := _ :: l) HM.out HG.out HX.out
 exact ⟨rfl, Zb (hco.drop.less (by omega))⟩
theorem Zav (hp0 : s.px = 0) (x y z : Nat) (hx : Hid (Cs.xOf s.nextV = x)) (hy : Hid (Cs.yOf s.nextV = y)) (hz : Hid (Cs.zOf s.nextV = z)) (h6 : ¬ z = 6) (h1 : x = 1) (h : Hid (Co W0 w c b s l (n + 4))) :
  CX 33 #[.pointer (some ⟨c, 0, none⟩)] w (.int .i64 8) fun w' => Hid (Co W0 w' c b (s.fetch.setF (Jj y (s.fetch.one z) s.fetch.r.f (s.fetch.one z))) l n) := by
 obtain ⟨X, hf, HF, HG, HX, HM⟩ := h.out.hif
 have HF0 := HF
 have hg := HG.out
 have hX := HX.out
 have hO := HM.out
 have px0 : ((s.px : Int) != 0) = false := by simp; omega
 obtain ⟨p, hp⟩ : ∃ p, Hid (y / 2 = p) := ⟨_, rfl⟩
 obtain ⟨q, hq⟩ : ∃ q, Hid (y % 2 = q) := ⟨_, rfl⟩
 have y8 : y < 8 := by rw [← hy.out]; exact Nat.mod_lt _ (by decide)
 have o8 : s.nextV < 256 := hf.m _
 have hff : s.fetch.Fits := Cs.tick_fits (Cs.next_fits hf)
 have z6 : ((z : Int) == 6) = false := by simp; omega
 have x1 : ((x : Int) == 1) = true := by rw [h1]; rfl
 have v1 : s.fetch.one z < 256 := Cs.one_lt hff _
 have f1 : s.fetch.r.f < 256 := hff.r.f
 have h3 : Jj y (s.fetch.one z) s.fetch.r.f (s.fetch.one z) < 256 := Ux _ _ _ _
 have yy : (y : Int) % 8 = ((y : Nat) : Int) := by omega
 clear hff hp0 h6 h1 h hf hg hX hO
 go_enter Tryz.func33, Tryz.ntmps33
 go_upto_region 5 with (first | refine b9 ?_ | (refine b10 ?_; clear HM; intro w' HM) | (go_at_call 30; have hco := Za HM HG HX; (with_reducible refine (YO hco).mono (coK ?_)); clear hco HM HF HG HX; intro w' X HF HG HX HM) | (go_at_call 32; (with_reducible refine (Jz s.nextV x y z p q o8 hx hy hz hp hq _).mono ?_); rintro e w' ⟨rfl, hb⟩; replace HM := Zb (HM.out.call hb); clear hb) | (refine b4 ?_; clear HM; intro w' g' HM))
 have HM' := Zb (HM.out.perm (List.Perm.swap _ _ _))
 clear HM; have HM := HM'; clear HM'
 go_upto_region 9 with (first | refine b6 ?_ | (refine cP ?_; clear HM; intro w' HM) | (refine a4 ?_; clear HM; intro w' g' HM) | (go_at_call 68; (with_reducible refine (Vq .z HM HF.out _).mono ?_); rintro e w' ⟨rfl, hb⟩; replace HM := Zb (HM.out.call hb); clear hb))
 (refine Zk 11 HM (by kernel_rfl) (by kernel_rfl) (by kernel_rfl) ?_; simp only [List.take_succ_cons, List.take_zero, List.drop_succ_cons, List.drop_zero]; (try simp only [Act.put, Ze, Zc, Zd]); repeat ((fail_if_success (with_reducible refine wpQuiet_nil ?_)); first | go_big_quiet_skip | (go_big_quiet_want; first | (refine a15 ?_; go_big_quiet_op; go_big_quiet_on) | (refine a16 ?_; go_big_quiet_op; go_big_quiet_on) | (refine a26 ?_; go_big_quiet_op; go_big_quiet_on) | (refine a24 ?_; go_big_quiet_op; go_big_quiet_on) | ((with_reducible apply Zh); exact fun w => rfl; (focus (go_simp; all_goals with_reducible rfl)); (intro wq HQ; first | (with_reducible exact (ZbH _ y _ _ _ _ yy v1 f1 v1 (Zb rfl) _).mono fun _ _ ⟨he, hw⟩ => ⟨he, hw ▸ Below.refl _ _⟩)); go_big_quiet_op; go_big_quiet_on) | (go_big_quiet_op; go_big_quiet_on) | (go_big_quiet_op; refine ⟨_, fun _ _ => rfl, ?_⟩; go_big_quiet_on))))
 refine wpQuiet_nil ?_
 intro w' HM'
 clear HM; have HM := HM'; clear HM'
 go_wp2_with (first | refine b6 ?_ | (refine cP ?_; clear HM; intro w' HM) | (refine a4 ?_; clear HM; intro w' g' HM))
 go_ret
 have hco := Co.ok (l := _ :: l) HM.out HG.out HX.out
 exact ⟨rfl, Zb (hco.drop.less (by omega))⟩
theorem Zcw (hp0 : s.px = 0) (x y z : Nat) (hx : Hid (Cs.xOf s.nextV = x)) (hy : Hid (Cs.yOf s.nextV = y)) (hz : Hid (Cs.zOf s.nextV = z)) (h6 : ¬ z = 6) (h1 : ¬ x = 1) (h : Hid (Co W0 w c b s l (n + 4))) :
  CX 33 #[.pointer (some ⟨c, 0, none⟩)] w (.int .i64 8) fun w' => Hid (Co W0 w' c b ((s.fetch.changed x y (s.fetch.one z)).setOne z (s.fetch.changedV x y (s.fetch.one z))) l n) := by
 obtain ⟨X, hf, HF, HG, HX, HM⟩ := h.out.hif
 have HF0 := HF
 have hg := HG.out
 have hX := HX.out
 have hO := HM.out
 have px0 : ((s.px : Int) != 0) = false := by simp; omega
 obtain ⟨p, hp⟩ : ∃ p, Hid (y / 2 = p) := ⟨_, rfl⟩
 obtain ⟨q, hq⟩ : ∃ q, Hid (y % 2 = q) := ⟨_, rfl⟩
 have y8 : y < 8 := by rw [← hy.out]; exact Nat.mod_lt _ (by decide)
 have o8 : s.nextV < 256 := hf.m _
 have hff : s.fetch.Fits := Cs.tick_fits (Cs.next_fits hf)
 have z6 : ((z : Int) == 6) = false := by simp; omega
 have x1 : ((x : Int) == 1) = false := by simp; omega
 have v1 : s.fetch.one z < 256 := Cs.one_lt hff _
 have V1 : s.fetch.changedV x y (s.fetch.one z) < 256 := Cs.changedV_lt hff x y _ y8 v1
 clear hff hp0 h6 h1 h hf hg hX hO
 have tg1 : Hid True := trivial
 go_enter Tryz.func33, Tryz.ntmps33
 go_upto_region 5 with (first | refine b9 ?_ | (refine b10 ?_; clear HM; intro w' HM) | (go_at_call 30; have hco := Za HM HG HX; (with_reducible refine (YO hco).mono (coK ?_)); clear hco HM HF HG HX; intro w' X HF HG HX HM) | (go_at_call 32; (with_reducible refine (Jz s.nextV x y z p q o8 hx hy hz hp hq _).mono ?_); rintro e w' ⟨rfl, hb⟩; replace HM := Zb (HM.out.call hb); clear hb) | (refine b4 ?_; (first | (clear tg1 HM; intro w' g1 HM) | (clear HM; intro w' g' HM))))
 have HM' := Zb (HM.out.perm (List.Perm.swap _ _ _))
 clear HM; have HM := HM'; clear HM'
 go_upto_region 10 with (first | refine b6 ?_ | (refine cP ?_; clear HM; intro w' HM) | (refine a4 ?_; clear tg1 HM; intro w' g1 HM) | (go_at_call 68; (with_reducible refine (Vq .z HM HF.out _).mono ?_); rintro e w' ⟨rfl, hb⟩; replace HM := Zb (HM.out.call hb); clear hb))
 have HM' := Zb HM.out.drew
 clear HM; have HM := HM'; clear HM'
 have d0 := HM.out.cells_at (.s .z) 0 _ rfl
 have d1 := HM.out.cells_at (.s .z) 1 _ rfl
 have d2 := HM.out.cells_at (.s .z) 2 _ rfl
 have d3 := HM.out.cells_at (.s .z) 3 _ rfl
 have d4 := HM.out.cells_at (.s .z) 4 _ rfl
 go_region_held3 (fun w' => w'.cell? ⟨g1, 0, none⟩ = some (.int .i64 (x : Int)) ∧ w'.cell? ⟨g1, 1, none⟩ = some (.int .i64 (y : Int)) ∧ w'.cell? ⟨g1, 2, none⟩ = some (.int .i64 (z : Int)) ∧ w'.cell? ⟨g1, 3, none⟩ = some (.int .i64 (p : Int)) ∧ w'.cell? ⟨g1, 4, none⟩ = some (.int .i64 (q : Int))) (first | assumption | (simp only [*]; trivial) | simp [*]) (first | (go_at_call 71; have hco := Za (l := _ :: l) HM HG HX; (with_reducible refine (KD x y z p q _ (Classical.em _) y8 v1 hco).mono (Z2 ?_)); clear hco HM HF HG HX; intro w' X HF HG HX HM; have d0 := HM.out.cells_at (.s .z) 0 _ rfl; have d1 := HM.out.cells_at (.s .z) 1 _ rfl; have d2 := HM.out.cells_at (.s .z) 2 _ rfl; have d3 := HM.out.cells_at (.s .z) 3 _ rfl; have d4 := HM.out.cells_at (.s .z) 4 _ rfl) | (go_at_call 70; have hco := Za (l := _ :: l) HM HG HX; (with_reducible refine (YS _ _ V1 hco).mono (Z2 ?_)); clear hco HM HF HG HX; intro w' X HF HG HX HM; have d0 := HM.out.cells_at (.s .z) 0 _ rfl; have d1 := HM.out.cells_at (.s .z) 1 _ rfl; have d2 := HM.out.cells_at (.s .z) 2 _ rfl; have d3 := HM.out.cells_at (.s .z) 3 _ rfl; have d4 := HM.out.cells_at (.s .z) 4 _ rfl))
 all_goals go_wp2_with (first | refine b6 ?_ | (refine cP ?_; clear HM; intro w' HM) | (refine a4 ?_; clear tg1 HM; intro w' g1 HM))
 all_goals go_ret
 all_goals have hco := Co.ok (l := _ :: l) HM.out HG.out HX.out
 all_goals exact ⟨rfl, Zb (hco.drop.less (by omega))⟩
theorem Zcx (h : Hid (Co W0 w c b s l (n + 4))) :
  CX 33 #[.pointer (some ⟨c, 0, none⟩)] w (.int .i64 ((s.onBitsC : Nat) : Int)) fun w' => Hid (Co W0 w' c b (s.onBits) l n) := by
 by_cases hp : s.px = 0
 ·obtain ⟨x, hx⟩ : ∃ x, Hid (Cs.xOf s.nextV = x) := ⟨_, rfl⟩
  obtain ⟨y, hy⟩ : ∃ y, Hid (Cs.yOf s.nextV = y) := ⟨_, rfl⟩
  obtain ⟨z, hz⟩ : ∃ z, Hid (Cs.zOf s.nextV = z) := ⟨_, rfl⟩
  by_cases h6 : z = 6
  ·have e2 : s.onBits = s.fetch.bitsAt (Cs.xOf s.nextV) (Cs.yOf s.nextV) (Cs.zOf s.nextV) (s.fetch.pair 2) := (if_pos hp).trans (if_pos (hz.out.trans h6))
   have e3 : s.onBitsC = Cs.bitsC (Cs.xOf s.nextV) 15 := (if_pos hp).trans (if_pos (hz.out.trans h6))
   rw [e2, e3, hx.out, hy.out, hz.out]
   exact Zau hp x y z hx hy hz h6 h
  ·have e2 : s.onBits = s.fetch.bitsReg (Cs.xOf s.nextV) (Cs.yOf s.nextV) (Cs.zOf s.nextV) := (if_pos hp).trans (if_neg (fun g => h6 (hz.out.symm.trans g)))
   have e3 : s.onBitsC = 8 := (if_pos hp).trans (if_neg (fun g => h6 (hz.out.symm.trans g)))
   rw [e2, e3, hx.out, hy.out, hz.out]
   by_cases h1 : x = 1
   ·have e4 : s.fetch.bitsReg x y z = s.fetch.setF (Jj y (s.fetch.one z) s.fetch.r.f (s.fetch.one z)) := if_pos h1
    rw [e4]; exact Zav hp x y z hx hy hz h6 h1 h
   ·have e4 : s.fetch.bitsReg x y z = (s.fetch.changed x y (s.fetch.one z)).setOne z (s.fetch.changedV x y (s.fetch.one z)) := if_neg h1
    rw [e4]; exact Zcw hp x y z hx hy hz h6 h1 h
 ·have e2 : s.onBits = s.point.next.bitsAt (Cs.xOf s.point.nextV) (Cs.yOf s.point.nextV) (Cs.zOf s.point.nextV) s.pointV := if_neg hp
  have e3 : s.onBitsC = Cs.bitsC (Cs.xOf s.point.nextV) 19 := if_neg hp
  rw [e2, e3]; exact Zat hp h
def bas (f a : Nat) : Nat := Nat.xor (a % 256 * f % 256) (a / 256 % 256)
theorem ZkP (f a : Nat) : bas f a < 256 := Nat.xor_lt_two_pow (n := 8) (Nat.mod_lt _ (by decide)) (Nat.mod_lt _ (by decide))
def lay : (Nat → Nat) → Nat → List Nat → Nat → Nat
 | m, _, [] => m
 | m, a, y :: ys => lay (upd m a y) (up1 a) ys
theorem ZhZ (m : Nat → Nat) (a y : Nat) (xs : List Nat) (ha : a < 65536) : lay m a (xs ++ [y]) = upd (lay m a xs) ((a + xs.length) % 65536) y := by
 induction xs generalizing m a with
 | nil => show upd m a y = upd m ((a + 0) % 65536) y; rw [Nat.add_zero, Nat.mod_eq_of_lt ha]
 | cons x xs ih =>
  show lay (upd m a x) (up1 a) (xs ++ [y]) = upd (lay (upd m a x) (up1 a) xs) ((a + (xs.length + 1)) % 65536) y
  rw [ih _ _ (Zy _)]
  have e : (up1 a + xs.length) % 65536 = (a + (xs.length + 1)) % 65536 := by unfold up1; omega
  rw [e]
theorem ZgB (m : Nat → Nat) (a i : Nat) (ys : List Nat) (ha : a < 65536) (hi : i < 65536) (hl : ys.length ≤ 65536) :
  lay m a ys i = if (i + 65536 - a) % 65536 < ys.length then ys.getD ((i + 65536 - a) % 65536) 0 else m i := by
 induction ys generalizing m a with
 | nil => show m i = _; rw [if_neg (by simp)]
 | cons y ys ih =>
  have hl' : ys.length + 1 ≤ 65536 := hl
  show lay (upd m a y) (up1 a) ys i = if _ < ys.length + 1 then _ else _
  rw [ih _ _ (Zy _) (by omega)]
  obtain ⟨d, hd⟩ : ∃ d, (i + 65536 - a) % 65536 = d := ⟨_, rfl⟩
  obtain ⟨d', hd'⟩ : ∃ d, (i + 65536 - up1 a) % 65536 = d := ⟨_, rfl⟩
  rw [hd, hd']
  unfold up1 at hd'
  cases d with
  | zero =>
   have h1 : i = a := by omega
   have h2 : d' = 65535 := by omega
   rw [if_neg (by omega), if_pos (by omega), h1]
   show upd m a y a = y
   exact if_pos rfl
  | succ k =>
   have h1 : ¬ i = a := by omega
   have h2 : d' = k := by omega
   subst h2
   have h3 : upd m a y i = m i := if_neg h1
   rw [h3]
   by_cases hk : d' < ys.length
   ·rw [if_pos hk, if_pos (by omega)]; rfl
   ·rw [if_neg hk, if_neg (by omega)]
theorem ZkQ (m : Nat → Nat) (a : Nat) (ys : List Nat) (hm : ∀ i, m i < 256) (hy : ∀ y ∈ ys, y < 256) (i : Nat) : lay m a ys i < 256 := by
 induction ys generalizing m a with
 | nil => exact hm i
 | cons y ys ih => exact ih _ _ (Zbl hm a y (hy y (by simp))) (fun z hz => hy z (by simp [hz]))
namespace Cs
def fetched (s : Cs) : Cs := ⟨{ s.r with dl := false, px := 0, pc := up1 s.r.pc, r := s.r.r / 128 * 128 + (s.r.r % 128 + 1) % 128 }, s.r.px, s.u.rd s.r.pc⟩
theorem begun_fetch (s : Cs) : s.begun.fetch = s.fetched := rfl
theorem step_eq (s : Cs) (o : Nat) (hm : s.m s.r.pc = o) (hh : s.r.ht = false) : s.step = s.fetched.perform o ∧ s.stepC = s.fetched.performC o := by
 have e : s.begun.nextV = o := hm
 unfold Cs.step Cs.stepC
 rw [hh, e]
 exact ⟨rfl, rfl⟩
theorem step_halted (s : Cs) (hh : s.r.ht = true) : s.step = s.tick ∧ s.stepC = 4 := by
 unfold Cs.step Cs.stepC
 rw [hh]
 exact ⟨rfl, rfl⟩
theorem do_prefix (s : Cs) (o : Nat) (ho : o = 221 ∨ o = 253) : s.perform o = s.setPX o ∧ s.performC o = 4 := by
 rcases ho with rfl | rfl
 ·exact ⟨if_pos rfl, if_pos rfl⟩
 ·exact ⟨(if_neg (by decide)).trans (if_pos rfl), (if_neg (by decide)).trans (if_pos rfl)⟩
theorem do_plain (s : Cs) (o : Nat) (h : o ≠ 221 ∧ o ≠ 253 ∧ o ≠ 237 ∧ o ≠ 203) : s.perform o = s.plain (xOf o) (yOf o) (zOf o) ∧ s.performC o = s.plainC (xOf o) (yOf o) (zOf o) :=
 ⟨(if_neg h.1).trans ((if_neg h.2.1).trans ((if_neg h.2.2.1).trans (if_neg h.2.2.2))), (if_neg h.1).trans ((if_neg h.2.1).trans ((if_neg h.2.2.1).trans (if_neg h.2.2.2)))⟩
theorem do_rare (s : Cs) : s.perform 237 = ((s.ahead 0).fetch).rare (xOf s.nextV) (yOf s.nextV) (zOf s.nextV) ∧ s.performC 237 = ((s.ahead 0).fetch).rareC (xOf s.nextV) (yOf s.nextV) (zOf s.nextV) :=
 ⟨(if_neg (by decide)).trans ((if_neg (by decide)).trans (if_pos rfl)), (if_neg (by decide)).trans ((if_neg (by decide)).trans (if_pos rfl))⟩
end Cs
end
end Go.Proofs.YtgdeeiimkhjfiaaGreatDoor
