import Derived.Test.YtgdeeiimkhjfiaaGreatDoorV5
set_option maxRecDepth 100000
set_option maxHeartbeats 6400000
namespace Go.Proofs.YtgdeeiimkhjfiaaGreatDoor
open Go.RowKit
section
variable {W0 w : World} {x b tq n c : Nat} {s : Cs} {ix : Bool} {pg : Int} {l : Zj}
theorem Own.again {W0 w w' : World} (h : Own W0 w l) (h' : Hid (Own w w' [])) : Own W0 w' l := h.call h'.out.below
theorem v3 (r : Rg) (hr : r.Fits) (n : Int) (v : Nat) (hv : v < 256) (s : Rg) (hs : Hid (r.setOne n 0 v = s)) (w : World) : Calls Tryz.prog 135 #[r.v, .int .i64 n, .int .u8 0, .int .u8 (v : Int)] w fun e w' => e = .returned s.v ∧ Below w.heap.size w w' := Wr r hr n 0 v hv s hs w
theorem v4 (r : Rg) (hr : r.Fits) (n : Int) (O : Nat) (hO : Hid (r.one n 0 = O)) (w : World) : Calls Tryz.prog 132 #[r.v, .int .i64 n, .int .u8 0] w fun e w' => e = .returned (.int .u8 (O : Int)) ∧ Below w.heap.size w w' := Wq r hr n 0 O hO w
theorem yC {c b : Nat} {L : Zj} (hs : Sel L c 52 (s.cells b)) (h : Hid (Own W0 w L)) (hf : s.Fits) (n : Int) :
  CB 131 #[.pointer (some ⟨c, 0, none⟩), .int .i64 n] w (.int .i64 (s.stands n)) := by
 have HC := Zb (h.out.cells_at hs)
 have HF := Zb hf
 clear hs h hf
 have HM := Zb (Own.start w)
 by_cases hn : n = 2
 ·subst hn
  go_enter Tryz.func131, Tryz.ntmps131
  go_wp2_with (first | refine b3 ?_ | (go_at_call 192; (with_reducible refine (Jx _ _ (Zb rfl) _).mono ?_); rintro e w' ⟨rfl, rfl⟩))
  go_ret
  exact ⟨rfl, Own.fin HM⟩
 ·have e : s.stands n = n := if_neg hn
  rw [e]
  go_enter Tryz.func131, Tryz.ntmps131
  go_wp2_with (first | refine b3 ?_)
  go_ret
  exact ⟨rfl, Own.fin HM⟩
theorem ZB {c b : Nat} {L : Zj} (hs : Sel L c 52 (s.cells b)) (h : Hid (Own W0 w L)) (hf : s.Fits) (n : Int) :
  CB 67 #[.pointer (some ⟨c, 0, none⟩), .int .i64 n] w (.int .u16 (s.pair n : Int)) := by
 have HS := Zb hs
 have HH := h
 have HC := Zb (h.out.cells_at hs)
 have HF := Zb hf
 clear hs h hf
 have HM := Zb (Own.start w)
 go_enter Tryz.func67, Tryz.ntmps67
 go_upto_region 1 with fail
 (refine Zo HM (by kernel_rfl) (by kernel_rfl) ?_; (try simp only [Act.put, Ze, Zc, Zd]); repeat ((fail_if_success (with_reducible refine wpQuiet_nil ?_)); first | go_big_quiet_skip | (go_big_quiet_want; first | ((with_reducible apply Vi); exact rfl; exact wS; exact HC.out _ _ rfl; exact rfl; go_big_quiet_op; go_big_quiet_on) | ((with_reducible apply KL); exact rfl; (with_reducible exact aggR); exact HC.out; exact Cs.drop0 _ _; exact Cs.take29 _ _; go_big_quiet_op; go_big_quiet_on) | ((with_reducible apply Zh); exact fun w => rfl; (focus (go_simp; all_goals with_reducible rfl)); (intro wq HQ; first | (with_reducible exact yC HS.out (Zb (Own.again HH.out HQ)) HF.out _) | (with_reducible exact Ky _ HF.out.r _ _ (Zb rfl) _)); go_big_quiet_op; go_big_quiet_on) | (go_big_quiet_op; go_big_quiet_on) | (go_big_quiet_op; refine ⟨_, fun _ _ => rfl, ?_⟩; go_big_quiet_on))))
 refine wpQuiet_nil ?_
 intro w' HM'
 clear HM; have HM := HM'; clear HM'
 go_wp2_with fail
 go_ret
 exact ⟨rfl, Own.fin HM⟩
theorem Vq {c b : Nat} {L : Zj} (hs : Sel L c 52 (s.cells b)) (h : Hid (Own W0 w L)) (hf : s.Fits) (n : Int) :
  CB 68 #[.pointer (some ⟨c, 0, none⟩), .int .i64 n] w (.int .u8 (s.one n : Int)) := by
 have HC := Zb (h.out.cells_at hs)
 have HF := Zb hf
 clear hs h hf
 have HM := Zb (Own.start w)
 go_enter Tryz.func68, Tryz.ntmps68
 go_upto_region 1 with fail
 (refine Zo HM (by kernel_rfl) (by kernel_rfl) ?_; (try simp only [Act.put, Ze, Zc, Zd]); repeat ((fail_if_success (with_reducible refine wpQuiet_nil ?_)); first | go_big_quiet_skip | (go_big_quiet_want; first | ((with_reducible apply Vi); exact rfl; exact wS; exact HC.out _ _ rfl; exact rfl; go_big_quiet_op; go_big_quiet_on) | ((with_reducible apply KL); exact rfl; (with_reducible exact aggR); exact HC.out; exact Cs.drop0 _ _; exact Cs.take29 _ _; go_big_quiet_op; go_big_quiet_on) | ((with_reducible apply Zh); exact fun w => rfl; (focus (go_simp; all_goals with_reducible rfl)); (intro wq HQ; first | (with_reducible exact Wq _ HF.out.r _ _ _ (Zb rfl) _)); go_big_quiet_op; go_big_quiet_on) | (go_big_quiet_op; go_big_quiet_on) | (go_big_quiet_op; refine ⟨_, fun _ _ => rfl, ?_⟩; go_big_quiet_on))))
 refine wpQuiet_nil ?_
 intro w' HM'
 clear HM; have HM := HM'; clear HM'
 go_wp2_with fail
 go_ret
 exact ⟨rfl, Own.fin HM⟩
theorem Zgx {c b : Nat} {L : Zj} (hs : Sel L c 52 (s.cells b)) (h : Hid (Own W0 w L)) (hf : s.Fits) (n : Int) :
  CB 149 #[.pointer (some ⟨c, 0, none⟩), .int .i64 n] w (.int .u8 (s.own n : Int)) := by
 have HC := Zb (h.out.cells_at hs)
 have HF := Zb hf
 clear hs h hf
 have HM := Zb (Own.start w)
 go_enter Tryz.func149, Tryz.ntmps149
 go_wp2_with (first | refine b3 ?_ | (go_at_call 132; (with_reducible refine (v4 _ HF.out.r _ _ (Zb rfl) _).mono ?_); rintro e w' ⟨rfl, hb⟩; replace HM := Zb (HM.out.call hb); clear hb))
 go_ret
 exact ⟨rfl, Own.fin HM⟩
theorem Yx {c b : Nat} {L : Zj} (hs : Sel L c 52 (s.cells b)) (h : Hid (Own W0 w L)) (hf : s.Fits) (hp : s.px = 0) (k j : Int) :
  CB 150 #[.pointer (some ⟨c, 0, none⟩), .int .i64 k, .int .i64 j] w (.int .i64 k) := by
 have HC := Zb (h.out.cells_at hs)
 have HF := Zb hf
 clear hs h hf
 have HM := Zb (Own.start w)
 have hp' : ((s.px : Int) == 0) = true := by simp; omega
 clear hp
 go_enter Tryz.func150, Tryz.ntmps150
 go_wp2_with (first | refine b3 ?_)
 go_ret
 exact ⟨rfl, Own.fin HM⟩
theorem YR {c b : Nat} {L : Zj} (hs : Sel L c 52 (s.cells b)) (h : Hid (Own W0 w L)) (hf : s.Fits) (hp : ¬ s.px = 0) (k j : Int) :
  CB 150 #[.pointer (some ⟨c, 0, none⟩), .int .i64 k, .int .i64 j] w (.int .i64 j) := by
 have HC := Zb (h.out.cells_at hs)
 have HF := Zb hf
 clear hs h hf
 have HM := Zb (Own.start w)
 have hp' : ((s.px : Int) == 0) = false := by simp; omega
 clear hp
 go_enter Tryz.func150, Tryz.ntmps150
 go_wp2_with (first | refine b3 ?_)
 go_ret
 exact ⟨rfl, Own.fin HM⟩
theorem YZ (a : Nat) (ha : a < 65536) (h : Hid (Co W0 w c b s l (n + 1))) :
  CX 247 #[.pointer (some ⟨b, 0, none⟩), .int .u16 (a : Int)] w (.int .u8 (s.m a : Int)) fun w' => Hid (Co W0 w' c b (s.rd a) l n) :=
 (Zef a ha (Zb h.out.bx)).mono fun _ _ ⟨he, hb⟩ => ⟨he, Zb ⟨⟨h.out.fits.r, h.out.fits.px, hb.out.good.m8⟩, hb.out⟩⟩
theorem Y9 (a v : Nat) (ha : a < 65536) (hv : v < 256) (h : Hid (Co W0 w c b s l (n + 1))) :
  CX 248 #[.pointer (some ⟨b, 0, none⟩), .int .u16 (a : Int), .int .u8 (v : Int)] w (.tuple #[]) fun w' => Hid (Co W0 w' c b (s.wr a v) l n) :=
 (Zbn a v ha hv (Zb h.out.bx)).mono fun _ _ ⟨he, hb⟩ => ⟨he, Zb ⟨⟨h.out.fits.r, h.out.fits.px, hb.out.good.m8⟩, hb.out⟩⟩
theorem Zhu (p v t : Nat) (hp : p < 65536) (hv : v < 256) (ht : t < 64) (h : Hid (Co W0 w c b s l (n + 1))) :
  CX 246 #[.pointer (some ⟨b, 0, none⟩), .int .u16 (p : Int), .int .u8 (v : Int), .int .i64 (t : Int)] w (.tuple #[]) fun w' => Hid (Co W0 w' c b (s.op p v t) l n) :=
 (Zg2 p v t hp hv ht (Zb h.out.bx)).mono fun _ _ ⟨he, hb⟩ => ⟨he, Zb ⟨⟨h.out.fits.r, h.out.fits.px, hb.out.good.m8⟩, hb.out⟩⟩
theorem Zhv (p t : Nat) (hp : p < 65536) (ht : t < 64) (h : Hid (Co W0 w c b s l (n + 1))) :
  CX 245 #[.pointer (some ⟨b, 0, none⟩), .int .u16 (p : Int), .int .i64 (t : Int)] w (.int .u8 (s.ipV p t : Int)) fun w' => Hid (Co W0 w' c b (s.ip p t) l n) :=
 (Zki p t hp ht (Zb h.out.bx)).mono fun _ _ ⟨he, hb⟩ => ⟨he, Zb ⟨⟨h.out.fits.r, h.out.fits.px, hb.out.good.m8⟩, hb.out⟩⟩
theorem Yy (h : Hid (Co W0 w c b s l (n + 1))) :
  CX 62 #[.pointer (some ⟨c, 0, none⟩)] w (.int .u8 (s.nextV : Int)) fun w' => Hid (Co W0 w' c b (s.next) l n) := by
 obtain ⟨X, hf, HF, HG, HX, HM⟩ := h.out.hif
 have HF0 := HF
 have hg := HG.out
 have hX := HX.out
 have hO := HM.out
 have h1 : s.r.pc < 65536 := hf.r.pc
 clear h hf hg hX hO
 have hmRead : ∀ w : World, (method 296 29 (.pointer (some ⟨b, 0, none⟩)) "Read").run Tryz.prog w = .ok (247, .pointer (some ⟨b, 0, none⟩)) w := fun _ => by kernel_rfl
 go_enter Tryz.func62, Tryz.ntmps62
 go_upto_region 1 with fail
 (refine Zk 11 HM (by kernel_rfl) (by kernel_rfl) (by kernel_rfl) ?_; simp only [List.take_succ_cons, List.take_zero, List.drop_succ_cons, List.drop_zero]; (try simp only [Act.put, Ze, Zc, Zd]); repeat ((fail_if_success (with_reducible refine wpQuiet_nil ?_)); first | go_big_quiet_skip | (go_big_quiet_want; first | (refine a15 ?_; go_big_quiet_op; go_big_quiet_on) | (refine a16 ?_; go_big_quiet_op; go_big_quiet_on) | (go_big_quiet_op; go_big_quiet_on) | (go_big_quiet_op; refine ⟨_, fun _ _ => rfl, ?_⟩; go_big_quiet_on))))
 refine wpQuiet_nil ?_
 intro w' HM'
 clear HM; have HM := HM'; clear HM'
 go_wp2_with (first | refine cG ?_ | (refine cP ?_; clear HM; intro w' HM) | (go_at_call 247; have hco := Za HM HG HX; (with_reducible refine (YZ _ h1 hco).mono (coK ?_)); clear hco HM HF HG HX; intro w' X HF HG HX HM))
 go_ret
 have hco := Co.ok HM.out HG.out HX.out
 exact ⟨rfl, Zb hco⟩
theorem UC (h : Hid (Co W0 w c b s l (n))) :
  CX 29 #[.pointer (some ⟨c, 0, none⟩)] w (.tuple #[]) fun w' => Hid (Co W0 w' c b (s.tick) l n) := by
 obtain ⟨X, HF, HG, HX, HM⟩ := h.out.hid
 have HF0 := HF
 clear h
 go_enter Tryz.func29, Tryz.ntmps29
 go_wp2_with (first | refine cG ?_ | (refine cP ?_; clear HM; intro w' HM) | (go_at_call 61; (with_reducible refine (Zg1 _ HF.out.r.r _).mono ?_); rintro e w' ⟨rfl, hb⟩; replace HM := Zb (HM.out.call hb); clear hb))
 go_end0
 have hco := fun hf => Co.made HM.out HG.out HX.out hf
 exact ⟨rfl, Zb (hco (Cs.tick_fits HF.out))⟩
theorem YO (h : Hid (Co W0 w c b s l (n + 1))) :
  CX 30 #[.pointer (some ⟨c, 0, none⟩)] w (.int .u8 (s.nextV : Int)) fun w' => Hid (Co W0 w' c b (s.fetch) l n) := by
 obtain ⟨X, HF, HG, HX, HM⟩ := h.out.hid
 have HF0 := HF
 clear h
 go_enter Tryz.func30, Tryz.ntmps30
 go_wp2_with (first | refine cG ?_ | (refine cP ?_; clear HM; intro w' HM) | (go_at_call 62; have hco := Za HM HG HX; (with_reducible refine (Yy hco).mono (coK ?_)); clear hco HM HF HG HX; intro w' X HF HG HX HM) | (go_at_call 29; have hco := Za HM HG HX; (with_reducible refine (UC (n := n) hco).mono (coK ?_)); clear hco HM HF HG HX; intro w' X HF HG HX HM))
 go_ret
 have hco := Co.ok HM.out HG.out HX.out
 exact ⟨rfl, Zb hco⟩
theorem Jl (a : Nat) (ha : a < 65536) (h : Hid (Co W0 w c b s l (n + 2))) :
  CX 116 #[.pointer (some ⟨c, 0, none⟩), .int .u16 (a : Int)] w (.int .u16 (s.numV a : Int)) fun w' => Hid (Co W0 w' c b (s.num a) l n) := by
 obtain ⟨X, hf, HF, HG, HX, HM⟩ := h.out.hif
 have HF0 := HF
 have hg := HG.out
 have hX := HX.out
 have hO := HM.out
 have h1 : s.m a < 256 := hf.m a
 have h2 : (s.rd a).m (up1 a) < 256 := hf.m _
 have e1 : IntKind.u16.wrap ((a : Int) + 1) = ((up1 a : Nat) : Int) := by unfold up1; show ((a : Int) + 1) % 65536 = _; omega
 clear h hf hg hX hO
 have hmRead : ∀ w : World, (method 296 29 (.pointer (some ⟨b, 0, none⟩)) "Read").run Tryz.prog w = .ok (247, .pointer (some ⟨b, 0, none⟩)) w := fun _ => by kernel_rfl
 go_enter Tryz.func116, Tryz.ntmps116
 go_wp2_with (first | refine cG ?_ | (refine cP ?_; clear HM; intro w' HM) | (go_at_call 247; have hco := Za HM HG HX; (with_reducible refine (YZ a ha hco).mono (coK ?_)); clear hco HM HF HG HX; intro w' X HF HG HX HM) | (go_at_call 247; have hco := Za HM HG HX; (with_reducible refine (YZ (up1 a) (Zy a) hco).mono (coK ?_)); clear hco HM HF HG HX; intro w' X HF HG HX HM) | (go_at_call 117; (with_reducible refine (YF _ _ _ h2 h1 (Zb rfl) _).mono ?_); rintro e w' ⟨rfl, rfl⟩))
 go_ret
 have hco := Co.ok HM.out HG.out HX.out
 exact ⟨rfl, Zb hco⟩
theorem ZF (h : Hid (Co W0 w c b s l (n + 2))) :
  CX 140 #[.pointer (some ⟨c, 0, none⟩)] w (.int .u16 (s.nextNumV : Int)) fun w' => Hid (Co W0 w' c b (s.nextNum) l n) := by
 obtain ⟨X, hf, HF, HG, HX, HM⟩ := h.out.hif
 have HF0 := HF
 have hg := HG.out
 have hX := HX.out
 have hO := HM.out
 have h1 : s.r.pc < 65536 := hf.r.pc
 have h2 : (s.r.pc + 2) % 65536 < 65536 := Nat.mod_lt _ (by decide)
 clear h hf hg hX hO
 go_enter Tryz.func140, Tryz.ntmps140
 go_wp2_with (first | refine cG ?_ | (refine cP ?_; clear HM; intro w' HM) | (go_at_call 116; have hco := Za HM HG HX; (with_reducible refine (Jl _ h1 hco).mono (coK ?_)); clear hco HM HF HG HX; intro w' X HF HG HX HM))
 go_ret
 have hco := Co.ok HM.out HG.out HX.out
 exact ⟨rfl, Zb hco⟩
theorem KM (a v : Nat) (ha : a < 65536) (hv : v < 65536) (h : Hid (Co W0 w c b s l (n + 2))) :
  CX 181 #[.pointer (some ⟨c, 0, none⟩), .int .u16 (a : Int), .int .u16 (v : Int)] w (.tuple #[]) fun w' => Hid (Co W0 w' c b (s.setNum a v) l n) := by
 obtain ⟨X, hf, HF, HG, HX, HM⟩ := h.out.hif
 have HF0 := HF
 have hg := HG.out
 have hX := HX.out
 have hO := HM.out
 obtain ⟨lo, hlo⟩ : ∃ x, Hid (v % 256 = x) := ⟨_, rfl⟩
 obtain ⟨hi, hhi⟩ : ∃ x, Hid (Zx v = x) := ⟨_, rfl⟩
 have h1 : lo < 256 := by rw [← hlo.out]; exact Nat.mod_lt _ (by decide)
 have h2 : hi < 256 := by rw [← hhi.out]; exact Yd v hv
 have E : s.setNum a v = (s.wr a lo).wr (up1 a) hi := by unfold Cs.setNum; rw [hlo.out, hhi.out]
 rw [E]
 have e1 : IntKind.u16.wrap ((a : Int) + 1) = ((up1 a : Nat) : Int) := by unfold up1; show ((a : Int) + 1) % 65536 = _; omega
 clear E h hf hg hX hO
 have hmWrite : ∀ w : World, (method 296 29 (.pointer (some ⟨b, 0, none⟩)) "Write").run Tryz.prog w = .ok (248, .pointer (some ⟨b, 0, none⟩)) w := fun _ => by kernel_rfl
 go_enter Tryz.func181, Tryz.ntmps181
 go_wp2_with (first | refine cG ?_ | (refine cP ?_; clear HM; intro w' HM) | (go_at_call 128; (with_reducible refine (Z7 v hi lo hv hhi hlo _).mono ?_); rintro e w' ⟨rfl, rfl⟩) | (go_at_call 248; have hco := Za HM HG HX; (with_reducible refine (Y9 _ _ ha h1 hco).mono (coK ?_)); clear hco HM HF HG HX; intro w' X HF HG HX HM) | (go_at_call 248; have hco := Za HM HG HX; (with_reducible refine (Y9 _ _ (Zy a) h2 hco).mono (coK ?_)); clear hco HM HF HG HX; intro w' X HF HG HX HM))
 go_end0
 have hco := Co.ok HM.out HG.out HX.out
 exact ⟨rfl, Zb hco⟩
theorem zT (v : Nat) (hv : v < 65536) (h : Hid (Co W0 w c b s l (n + 2))) :
  CX 114 #[.pointer (some ⟨c, 0, none⟩), .int .u16 (v : Int)] w (.tuple #[]) fun w' => Hid (Co W0 w' c b (s.push v) l n) := by
 obtain ⟨X, hf, HF, HG, HX, HM⟩ := h.out.hif
 have HF0 := HF
 have hg := HG.out
 have hX := HX.out
 have hO := HM.out
 obtain ⟨lo, hlo⟩ : ∃ x, Hid (v % 256 = x) := ⟨_, rfl⟩
 obtain ⟨hi, hhi⟩ : ∃ x, Hid (Zx v = x) := ⟨_, rfl⟩
 have h1 : lo < 256 := by rw [← hlo.out]; exact Nat.mod_lt _ (by decide)
 have h2 : hi < 256 := by rw [← hhi.out]; exact Yd v hv
 obtain ⟨p, hp⟩ : ∃ x, Hid (dn1 s.r.sp = x) := ⟨_, rfl⟩
 obtain ⟨q, hq⟩ : ∃ x, Hid (dn1 p = x) := ⟨_, rfl⟩
 have p1 : p < 65536 := by rw [← hp.out]; exact ZP _
 have q1 : q < 65536 := by rw [← hq.out]; exact ZP _
 have E : s.push v = (((s.setSP p).wr p hi).setSP q).wr q lo := by unfold Cs.push; rw [hlo.out, hhi.out, hp.out, hq.out]
 rw [E]
 have e1 : IntKind.u16.wrap ((s.r.sp : Int) - 1) = (p : Int) := by rw [← hp.out]; unfold dn1; show ((s.r.sp : Int) - 1) % 65536 = _; omega
 have e2 : IntKind.u16.wrap ((((s.setSP p).wr p hi).r.sp : Int) - 1) = (q : Int) := by rw [← hq.out]; show IntKind.u16.wrap ((p : Int) - 1) = _; unfold dn1; show ((p : Int) - 1) % 65536 = _; omega
 clear E h hf hg hX hO
 have hmWrite : ∀ w : World, (method 296 29 (.pointer (some ⟨b, 0, none⟩)) "Write").run Tryz.prog w = .ok (248, .pointer (some ⟨b, 0, none⟩)) w := fun _ => by kernel_rfl
 go_enter Tryz.func114, Tryz.ntmps114
 go_upto_region 2 with (first | refine cG ?_ | (refine cP ?_; clear HM; intro w' HM) | (go_at_call 128; (with_reducible refine (Z7 v hi lo hv hhi hlo _).mono ?_); rintro e w' ⟨rfl, rfl⟩))
 (refine Zk 12 HM (by kernel_rfl) (by kernel_rfl) (by kernel_rfl) ?_; simp only [List.take_succ_cons, List.take_zero, List.drop_succ_cons, List.drop_zero]; (try simp only [Act.put, Ze, Zc, Zd]); repeat ((fail_if_success (with_reducible refine wpQuiet_nil ?_)); first | go_big_quiet_skip | (go_big_quiet_want; first | (refine a15 ?_; go_big_quiet_op; go_big_quiet_on) | (refine a16 ?_; go_big_quiet_op; go_big_quiet_on) | (go_big_quiet_op; go_big_quiet_on) | (go_big_quiet_op; refine ⟨_, fun _ _ => rfl, ?_⟩; go_big_quiet_on))))
 refine wpQuiet_nil ?_
 intro w' HM'
 clear HM; have HM := HM'; clear HM'
 go_upto_region 4 with (first | refine cG ?_ | (refine cP ?_; clear HM; intro w' HM) | (go_at_call 248; have hco := Za HM HG HX; (with_reducible refine (Y9 _ _ p1 h2 hco).mono (coK ?_)); clear hco HM HF HG HX; intro w' X HF HG HX HM))
 (refine Zk 12 HM (by kernel_rfl) (by kernel_rfl) (by kernel_rfl) ?_; simp only [List.take_succ_cons, List.take_zero, List.drop_succ_cons, List.drop_zero]; (try simp only [Act.put, Ze, Zc, Zd]); repeat ((fail_if_success (with_reducible refine wpQuiet_nil ?_)); first | go_big_quiet_skip | (go_big_quiet_want; first | (refine a15 ?_; go_big_quiet_op; go_big_quiet_on) | (refine a16 ?_; go_big_quiet_op; go_big_quiet_on) | (go_big_quiet_op; go_big_quiet_on) | (go_big_quiet_op; refine ⟨_, fun _ _ => rfl, ?_⟩; go_big_quiet_on))))
 refine wpQuiet_nil ?_
 intro w' HM'
 clear HM; have HM := HM'; clear HM'
 go_wp2_with (first | refine cG ?_ | (refine cP ?_; clear HM; intro w' HM) | (go_at_call 248; have hco := Za HM HG HX; (with_reducible refine (Y9 _ _ q1 h1 hco).mono (coK ?_)); clear hco HM HF HG HX; intro w' X HF HG HX HM))
 go_end0
 have hco := Co.ok HM.out HG.out HX.out
 exact ⟨rfl, Zb hco⟩
theorem Vr (x : Int) (k : Nat) (hk : k < 60) : bits .and .i64 x ((2 ^ k - 1 : Nat) : Int) = x % ((2 ^ k : Nat) : Int) := by
 have h2 : 2 ^ k ≤ 2 ^ 59 := Nat.pow_le_pow_right (by omega) (by omega)
 have h0 : 0 < 2 ^ k := Nat.two_pow_pos k
 have hd : ((2 ^ k : Nat) : Int) ∣ ((2 ^ 64 : Nat) : Int) := by
  refine Int.natCast_dvd_natCast.2 ?_
  exact Nat.pow_dvd_pow 2 (by omega)
 have e : (BitVec.ofInt 64 x &&& BitVec.ofInt 64 ((2 ^ k - 1 : Nat) : Int)).toNat = (x % ((2 ^ k : Nat) : Int)).toNat := by
  rw [BitVec.toNat_and, BitVec.toNat_ofInt, BitVec.toNat_ofInt]
  have e1 : (((2 ^ k - 1 : Nat) : Int) % ((2 ^ 64 : Nat) : Int)).toNat = 2 ^ k - 1 := by
   rw [Int.emod_eq_of_lt (by omega) (by omega), Int.toNat_natCast]
  rw [e1, Nat.and_two_pow_sub_one_eq_mod]
  have e2 := Int.emod_emod_of_dvd x hd
  have p1 := Int.emod_nonneg x (show ((2 ^ 64 : Nat) : Int) ≠ 0 by decide)
  obtain ⟨m, hm⟩ := Int.eq_ofNat_of_zero_le p1
  rw [hm] at e2 ⊢
  rw [← e2, Int.toNat_natCast, ← Int.natCast_emod, Int.toNat_natCast]
 show IntKind.i64.wrap ((BitVec.ofInt 64 x &&& BitVec.ofInt 64 ((2 ^ k - 1 : Nat) : Int)).toNat : Int) = _
 have p1 := Int.emod_nonneg x (show ((2 ^ k : Nat) : Int) ≠ 0 by omega)
 have p2 := Int.emod_lt_of_pos x (show 0 < ((2 ^ k : Nat) : Int) by omega)
 rw [e, IntWalk.i64_in _ (by omega)]
 omega
theorem yD (x : Int) : bits .and .i64 x 3 = x % 4 := Vr x 2 (by omega)
theorem yE (x : Int) : bits .and .i64 x 1 = x % 2 := Vr x 1 (by omega)
theorem aggParts : Agg Tryz.prog 74 5 := ⟨⟨_, Tryz.underlying74, rfl⟩, by kernel_rfl⟩
theorem zeroParts : ZgV Tryz.prog 74 [.int .i64 0, .int .i64 0, .int .i64 0, .int .i64 0, .int .i64 0] := ⟨.agg #[.int .i64 0, .int .i64 0, .int .i64 0, .int .i64 0, .int .i64 0], fun _ => by kernel_rfl, rfl⟩
section
variable {W0 w : World} {l : Zj} {ops : Array Oper} {rest : List Oper} {o : Oper} {a : Act} {Q : Exit → Act → World → Prop} {t : TypeId} {x : Operand} {v : Value} {g off : Nat} {cs r vs : List Value} {e : Nat × TypeId × List Value}
theorem ZbT (HM : Hid (Own W0 w (e :: (g, t, cs) :: l))) (ho : o.op = .load 3 x) (hx : a.eval x = .pointer (some ⟨g, off, none⟩)) (hd : Drop cs off (v :: r)) (hw : Region.wanted o (yielded ops a.tmps) = true)
  (h : wpList Tryz.prog ops Q rest (a.put o.dst v) w) : wpList Tryz.prog ops Q (o :: rest) a w := YA HM ho hx oneInt (.s .z) hd hw h
theorem ZbU (HM : Hid (Own W0 w (e :: (g, t, cs) :: l))) (ho : o.op = .load 74 x) (hx : a.eval x = .pointer (some ⟨g, 0, none⟩)) (ht : Take cs 5 vs) (hw : Region.wanted o (yielded ops a.tmps) = true)
  (h : wpList Tryz.prog ops Q rest (a.put o.dst (.agg vs.toArray)) w) : wpList Tryz.prog ops Q (o :: rest) a w := Y6 HM ho hx aggParts (.s .z) .z ht hw h
end
theorem ZbV (n : Nat) (hn : n < 256) : bits .and .u8 (n : Int) 7 = ((n % 8 : Nat) : Int) := by
 have h := u8_and n 7 (by omega) (by omega) (by omega) (by omega)
 rw [h]
 have e : (Int.toNat (n : Int)) &&& (Int.toNat 7) = n % 8 := by
  rw [Int.toNat_natCast]; exact Nat.and_two_pow_sub_one_eq_mod n 3
 exact congrArg Nat.cast e
theorem ZeH (n x y z p q : Nat) (hn : n < 256) (hx : Hid (n / 64 = x)) (hy : Hid (n / 8 % 8 = y)) (hz : Hid (n % 8 = z)) (hp : Hid (n / 8 % 8 / 2 = p)) (hq : Hid (n / 8 % 8 % 2 = q)) (w : World) : CB 32 #[.int .u8 (n : Int)] w (.agg #[.int .i64 (x : Int), .int .i64 (y : Int), .int .i64 (z : Int), .int .i64 (p : Int), .int .i64 (q : Int)]) := by
 replace hx := hx.out
 replace hy := hy.out
 replace hz := hz.out
 replace hp := hp.out
 replace hq := hq.out
 obtain ⟨m, hm⟩ : ∃ m, m = n / 8 := ⟨_, rfl⟩
 have a1 : bits .and .u8 (n : Int) 7 = (z : Int) := by rw [ZbV n hn, hz]
 have a2 : bits .and .u8 (m : Int) 7 = (y : Int) := by rw [ZbV m (by omega), hm, hy]
 have a3 : bits .and .i64 (y : Int) 1 = (q : Int) := by rw [yE]; omega
 have d1 : (n : Int) / 8 = (m : Int) := by omega
 have d2 : (n : Int) / 64 = (x : Int) := by omega
 have d3 : (y : Int) / 2 = (p : Int) := by omega
 have y8 : (y : Int) < 8 := by omega
 have m8 : (m : Int) < 32 := by omega
 have n8 : (n : Int) < 256 := by omega
 have x8 : (x : Int) < 4 := by omega
 have z8 : (z : Int) < 8 := by omega
 clear hx hm hy hz hp hq hn
 have HM := Zb (Own.start w)
 go_enter Tryz.func32, Tryz.ntmps32
 go_wp2_with (first | (refine b4 ?_; clear HM; intro w' g' HM) | refine b5 ?_ | (refine a47 ?_; clear HM; intro w' HM))
 refine bodyPost_ret (v := .agg #[.int .i64 (x : Int), .int .i64 (y : Int), .int .i64 (z : Int), .int .i64 (p : Int), .int .i64 (q : Int)]) (Zi HM Tryz.results32 _ rfl (by first | exact .z | exact .s .z) aggParts) rfl ⟨rfl, Own.fin HM⟩
theorem YS (i : Int) (v : Nat) (hv : v < 256) (h : Hid (Co W0 w c b s l (n))) :
  CX 70 #[.pointer (some ⟨c, 0, none⟩), .int .i64 i, .int .u8 (v : Int)] w (.tuple #[]) fun w' => Hid (Co W0 w' c b (s.setOne i v) l n) := by
 obtain ⟨X, HF, HG, HX, HM⟩ := h.out.hid
 have HF0 := HF
 clear h
 go_enter Tryz.func70, Tryz.ntmps70
 (refine Zk 12 HM (by kernel_rfl) (by kernel_rfl) (by kernel_rfl) ?_; simp only [List.take_succ_cons, List.take_zero, List.drop_succ_cons, List.drop_zero]; (try simp only [Act.put, Ze, Zc, Zd]); repeat ((fail_if_success (with_reducible refine wpQuiet_nil ?_)); first | go_big_quiet_skip | (go_big_quiet_want; first | (refine a15 ?_; go_big_quiet_op; go_big_quiet_on) | (refine a16 ?_; go_big_quiet_op; go_big_quiet_on) | ((with_reducible apply Zh); exact fun w => rfl; (focus (go_simp; all_goals with_reducible rfl)); (intro wq HQ; first | (with_reducible exact Wr _ HF.out.r _ _ _ hv _ (Zb rfl) _)); go_big_quiet_op; go_big_quiet_on) | (go_big_quiet_op; go_big_quiet_on) | (go_big_quiet_op; refine ⟨_, fun _ _ => rfl, ?_⟩; go_big_quiet_on))))
 refine wpQuiet_nil ?_
 intro w' HM'
 clear HM; have HM := HM'; clear HM'
 go_wp2_with (first | refine cG ?_ | (refine cP ?_; clear HM; intro w' HM))
 go_end0
 have hco := fun hf => Co.made HM.out HG.out HX.out hf
 exact ⟨rfl, Zb (hco (by first | with_reducible exact HF.out | (focus repeat' (first | (with_reducible first | exact HF.out | apply ftA | apply ftF | apply ftB | apply ftC | apply ftD | apply ftE | apply ftH | apply ftL | apply ftS | apply ftP | apply ftW | apply ftI | apply ftR | apply ftM | apply ftX | apply ft1 | apply ft2 | apply ftT | apply ftY | apply ftZ | apply ftr | exact Zy _ | exact ZP _ | exact Zt _ _ | exact Zm _ _ _ _ _ _ _ _ | exact Nat.mod_lt _ (by decide)) | exact Rg.setOne_fits _ HF.out.r _ _ _ hv | assumption | omega | exact Nat.mod_lt _ (by decide)))))⟩
theorem Jy (i : Int) (v : Nat) (hv : v < 256) (h : Hid (Co W0 w c b s l (n))) :
  CX 129 #[.pointer (some ⟨c, 0, none⟩), .int .i64 i, .int .u8 (v : Int)] w (.tuple #[]) fun w' => Hid (Co W0 w' c b (s.setOwn i v) l n) := by
 obtain ⟨X, HF, HG, HX, HM⟩ := h.out.hid
 have HF0 := HF
 clear h
 go_enter Tryz.func129, Tryz.ntmps129
 go_wp2_with (first | refine cG ?_ | (refine cP ?_; clear HM; intro w' HM) | (go_at_call 135; (with_reducible refine (v3 _ HF.out.r _ _ hv _ (Zb rfl) _).mono ?_); rintro e w' ⟨rfl, hb⟩; replace HM := Zb (HM.out.call hb); clear hb))
 go_end0
 have hco := fun hf => Co.made HM.out HG.out HX.out hf
 exact ⟨rfl, Zb (hco (by first | with_reducible exact HF.out | (focus repeat' (first | (with_reducible first | exact HF.out | apply ftA | apply ftF | apply ftB | apply ftC | apply ftD | apply ftE | apply ftH | apply ftL | apply ftS | apply ftP | apply ftW | apply ftI | apply ftR | apply ftM | apply ftX | apply ft1 | apply ft2 | apply ftT | apply ftY | apply ftZ | apply ftr | exact Zy _ | exact ZP _ | exact Zt _ _ | exact Zm _ _ _ _ _ _ _ _ | exact Nat.mod_lt _ (by decide)) | exact Rg.setOne_fits _ HF.out.r _ _ _ hv | assumption | omega | exact Nat.mod_lt _ (by decide)))))⟩
theorem ZO (i : Int) (v : Nat) (hv : v < 65536) (h : Hid (Co W0 w c b s l (n))) :
  CX 139 #[.pointer (some ⟨c, 0, none⟩), .int .i64 i, .int .u16 (v : Int)] w (.tuple #[]) fun w' => Hid (Co W0 w' c b (s.setPair i v) l n) := by
 obtain ⟨X, HF, HG, HX, HM⟩ := h.out.hid
 have HF0 := HF
 clear h
 go_enter Tryz.func139, Tryz.ntmps139
 (refine Zk 10 HM (by kernel_rfl) (by kernel_rfl) (by kernel_rfl) ?_; simp only [List.take_succ_cons, List.take_zero, List.drop_succ_cons, List.drop_zero]; (try simp only [Act.put, Ze, Zc, Zd]); repeat ((fail_if_success (with_reducible refine wpQuiet_nil ?_)); first | go_big_quiet_skip | (go_big_quiet_want; first | (refine a15 ?_; go_big_quiet_op; go_big_quiet_on) | (refine a16 ?_; go_big_quiet_op; go_big_quiet_on) | ((with_reducible apply Zh); exact fun w => rfl; (focus (go_simp; all_goals with_reducible rfl)); (intro wq HQ; first | (with_reducible exact yC .z HQ HF.out _) | (with_reducible exact Kz _ _ _ hv _ (Zb rfl) _)); go_big_quiet_op; go_big_quiet_on) | (go_big_quiet_op; go_big_quiet_on) | (go_big_quiet_op; refine ⟨_, fun _ _ => rfl, ?_⟩; go_big_quiet_on))))
 refine wpQuiet_nil ?_
 intro w' HM'
 clear HM; have HM := HM'; clear HM'
 go_wp2_with (first | refine cG ?_ | (refine cP ?_; clear HM; intro w' HM))
 go_end0
 have hco := fun hf => Co.made HM.out HG.out HX.out hf
 exact ⟨rfl, Zb (hco (by first | with_reducible exact HF.out | (focus repeat' (first | (with_reducible first | exact HF.out | apply ftA | apply ftF | apply ftB | apply ftC | apply ftD | apply ftE | apply ftH | apply ftL | apply ftS | apply ftP | apply ftW | apply ftI | apply ftR | apply ftM | apply ftX | apply ft1 | apply ft2 | apply ftT | apply ftY | apply ftZ | apply ftr | exact Zy _ | exact ZP _ | exact Zt _ _ | exact Zm _ _ _ _ _ _ _ _ | exact Nat.mod_lt _ (by decide)) | exact Rg.setPair_fits _ HF.out.r _ _ hv | assumption | omega | exact Nat.mod_lt _ (by decide)))))⟩
theorem Zgy (h : Hid (Co W0 w c b s l (n + 2))) :
  CX 155 #[.pointer (some ⟨c, 0, none⟩)] w (.int .u16 (s.popV : Int)) fun w' => Hid (Co W0 w' c b (s.pop) l n) := by
 obtain ⟨X, hf, HF, HG, HX, HM⟩ := h.out.hif
 have HF0 := HF
 have hg := HG.out
 have hX := HX.out
 have hO := HM.out
 have h1 : s.r.sp < 65536 := hf.r.sp
 have h2 : (s.r.sp + 2) % 65536 < 65536 := Nat.mod_lt _ (by decide)
 clear h hf hg hX hO
 go_enter Tryz.func155, Tryz.ntmps155
 go_wp2_with (first | refine cG ?_ | (refine cP ?_; clear HM; intro w' HM) | (go_at_call 116; have hco := Za HM HG HX; (with_reducible refine (Jl _ h1 hco).mono (coK ?_)); clear hco HM HF HG HX; intro w' X HF HG HX HM))
 go_ret
 have hco := Co.ok HM.out HG.out HX.out
 exact ⟨rfl, Zb hco⟩
theorem JP (a : Nat) (ha : a < 65536) (h : Hid (Co W0 w c b s l (n))) :
  CX 115 #[.pointer (some ⟨c, 0, none⟩), .int .u16 (a : Int)] w (.tuple #[]) fun w' => Hid (Co W0 w' c b (s.goTo a) l n) := by
 obtain ⟨X, HF, HG, HX, HM⟩ := h.out.hid
 have HF0 := HF
 clear h
 go_enter Tryz.func115, Tryz.ntmps115
 go_wp2_with (first | refine cG ?_ | (refine cP ?_; clear HM; intro w' HM))
 go_end0
 have hco := Co.ok HM.out HG.out HX.out
 exact ⟨rfl, Zb hco⟩
theorem YP (a : Nat) (ha : a < 65536) (h : Hid (Co W0 w c b s l (n + 2))) :
  CX 57 #[.pointer (some ⟨c, 0, none⟩), .int .u16 (a : Int)] w (.tuple #[]) fun w' => Hid (Co W0 w' c b (s.start a) l n) := by
 obtain ⟨X, hf, HF, HG, HX, HM⟩ := h.out.hif
 have HF0 := HF
 have hg := HG.out
 have hX := HX.out
 have hO := HM.out
 have h1 : s.r.pc < 65536 := hf.r.pc
 clear h hf hg hX hO
 go_enter Tryz.func57, Tryz.ntmps57
 go_wp2_with (first | refine cG ?_ | (refine cP ?_; clear HM; intro w' HM) | (go_at_call 114; have hco := Za HM HG HX; (with_reducible refine (zT _ h1 hco).mono (coK ?_)); clear hco HM HF HG HX; intro w' X HF HG HX HM) | (go_at_call 115; have hco := Za HM HG HX; (with_reducible refine (JP a ha hco).mono (coK ?_)); clear hco HM HF HG HX; intro w' X HF HG HX HM))
 go_end0
 have hco := Co.ok HM.out HG.out HX.out
 exact ⟨rfl, Zb hco⟩
theorem Z9 (h : Hid (Co W0 w c b s l (n + 2))) :
  CX 124 #[.pointer (some ⟨c, 0, none⟩)] w (.tuple #[]) fun w' => Hid (Co W0 w' c b (s.back) l n) := by
 obtain ⟨X, hf, HF, HG, HX, HM⟩ := h.out.hif
 have HF0 := HF
 have hg := HG.out
 have hX := HX.out
 have hO := HM.out
 have h1 : s.popV < 65536 := Cs.numV_lt hf _
 clear h hf hg hX hO
 go_enter Tryz.func124, Tryz.ntmps124
 go_wp2_with (first | refine cG ?_ | (refine cP ?_; clear HM; intro w' HM) | (go_at_call 155; have hco := Za HM HG HX; (with_reducible refine (Zgy hco).mono (coK ?_)); clear hco HM HF HG HX; intro w' X HF HG HX HM) | (go_at_call 115; have hco := Za HM HG HX; (with_reducible refine (JP _ h1 hco).mono (coK ?_)); clear hco HM HF HG HX; intro w' X HF HG HX HM))
 go_end0
 have hco := Co.ok HM.out HG.out HX.out
 exact ⟨rfl, Zb hco⟩
end
end Go.Proofs.YtgdeeiimkhjfiaaGreatDoor
