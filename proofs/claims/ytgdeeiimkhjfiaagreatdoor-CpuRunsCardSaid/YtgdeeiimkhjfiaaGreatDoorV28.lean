import Derived.Test.YtgdeeiimkhjfiaaGreatDoorV27
set_option maxRecDepth 100000
set_option maxHeartbeats 6400000
namespace Go.Proofs.YtgdeeiimkhjfiaaGreatDoor
open Go.RowKit
section
variable {W0 w : World} {x b tq n c : Nat} {s : Cs} {ix : Bool} {pg : Int} {l : Zj}
theorem Zll {t : Tx} {g : Rg → Nat} {st : Rg → Nat → Rg} {u : Tx} {g2 : Rg → Nat} {st2 : Rg → Nat → Rg} (hN1 : Nm t g st 256) (hUt : Un t) (hN2 : Nm u g2 st2 256) (hUu : Un u) (v : Nat) (hv : Hid (g2 s.r = v)) (r : Rg) (hr : Hid (st s.r v = r)) (H : Hid (Ex W0 w x b s tq ix pg l n)) :
  CX 45 #[.pointer (some ⟨x, 0, none⟩), .string ⟨t.toArray⟩, .string ⟨u.toArray⟩] w (.int .i64 4) fun w' => Hid (Ex W0 w' x b (s.setR r) tq ix pg l n) := by
 have utNN := hUt [40, 110, 110, 41] (by decide)
 have utSP := hUt [83, 80] (by decide)
 have utI := hUt [73] (by decide)
 have utR := hUt [82] (by decide)
 have utBC := hUt [40, 66, 67, 41] (by decide)
 have utDE := hUt [40, 68, 69, 41] (by decide)
 have utHL := hUt [40, 72, 76, 41] (by decide)
 have utIX := hUt [40, 73, 88, 43, 100, 41] (by decide)
 have utIY := hUt [40, 73, 89, 43, 100, 41] (by decide)
 have utn := hUt [110] (by decide)
 have utnn := hUt [110, 110] (by decide)
 have uuNN := hUu [40, 110, 110, 41] (by decide)
 have uuSP := hUu [83, 80] (by decide)
 have uuI := hUu [73] (by decide)
 have uuR := hUu [82] (by decide)
 have uuBC := hUu [40, 66, 67, 41] (by decide)
 have uuDE := hUu [40, 68, 69, 41] (by decide)
 have uuHL := hUu [40, 72, 76, 41] (by decide)
 have uuIX := hUu [40, 73, 88, 43, 100, 41] (by decide)
 have uuIY := hUu [40, 73, 89, 43, 100, 41] (by decide)
 have uun := hUu [110] (by decide)
 have uunn := hUu [110, 110] (by decide)
 go_enter Tryz.func45, Tryz.ntmps45
 go_wp2_with (first | (go_at_call 88; (with_reducible refine (Kb hN2 uun uuHL uuIX uuIY uuBC uuDE v hv H).mono ?_); clear H; rintro e w' ⟨rfl, bv, H⟩) | (go_at_call 87; (with_reducible refine (Zkf hN1 utn utHL utIX utIY utBC utDE v bv r hr H).mono ?_); clear H; rintro e w' ⟨rfl, H⟩) | (go_at_call 90; (with_reducible refine (YW _ uuHL uuIX uuIY _).mono ?_); rintro e w' ⟨rfl, rfl⟩) | (go_at_call 89; (with_reducible refine (Uc t _ _ _ utHL utIX utIY H).mono ?_); clear H; rintro e w' ⟨rfl, H⟩) | fail)
 go_ret
 exact ⟨rfl, H⟩
theorem Zlm {t : Tx} {g : Rg → Nat} {st : Rg → Nat → Rg} {u : Tx} (hN1 : Nm t g st 256) (hUt : Un t) (hMu : Mem u) (hq : tq < 65536) (v : Nat) (s1 : Cs) (hv : Hid (s.m tq = v)) (hs1 : Hid (s.rd tq = s1)) (r : Rg) (hr : Hid (st s1.r v = r)) (c : Int) (hc : cond ix 15 7 = c) (H : Hid (Ex W0 w x b s tq ix pg l (n + 1))) :
  CX 45 #[.pointer (some ⟨x, 0, none⟩), .string ⟨t.toArray⟩, .string ⟨u.toArray⟩] w (.int .i64 c) fun w' => Hid (Ex W0 w' x b (s1.setR r) tq ix pg l n) := by
 have utNN := hUt [40, 110, 110, 41] (by decide)
 have utSP := hUt [83, 80] (by decide)
 have utI := hUt [73] (by decide)
 have utR := hUt [82] (by decide)
 have utBC := hUt [40, 66, 67, 41] (by decide)
 have utDE := hUt [40, 68, 69, 41] (by decide)
 have utHL := hUt [40, 72, 76, 41] (by decide)
 have utIX := hUt [40, 73, 88, 43, 100, 41] (by decide)
 have utIY := hUt [40, 73, 89, 43, 100, 41] (by decide)
 have utn := hUt [110] (by decide)
 have utnn := hUt [110, 110] (by decide)
 have uuNN : (u == [40, 110, 110, 41]) = false := by rcases hMu with rfl | rfl | rfl <;> decide
 have uunn : (u == [110, 110]) = false := by rcases hMu with rfl | rfl | rfl <;> decide
 have uuI : (u == [73]) = false := by rcases hMu with rfl | rfl | rfl <;> decide
 have uuR : (u == [82]) = false := by rcases hMu with rfl | rfl | rfl <;> decide
 have uuBC : (u == [40, 66, 67, 41]) = false := by rcases hMu with rfl | rfl | rfl <;> decide
 have uuDE : (u == [40, 68, 69, 41]) = false := by rcases hMu with rfl | rfl | rfl <;> decide
 have uun : (u == [110]) = false := by rcases hMu with rfl | rfl | rfl <;> decide
 go_enter Tryz.func45, Tryz.ntmps45
 go_wp2_with (first | (go_at_call 88; (with_reducible refine (Jm u hMu v s1 hq hv hs1 H).mono ?_); clear H; rintro e w' ⟨rfl, bv, H⟩) | (go_at_call 87; (with_reducible refine (Zkf hN1 utn utHL utIX utIY utBC utDE v bv r hr H).mono ?_); clear H; rintro e w' ⟨rfl, H⟩) | (go_at_call 90; (with_reducible refine (Zlk _ hMu _).mono ?_); rintro e w' ⟨rfl, rfl⟩) | (go_at_call 89; (with_reducible refine (JR u hMu _ _ _ c hc H).mono ?_); clear H; rintro e w' ⟨rfl, H⟩) | fail)
 go_ret
 exact ⟨rfl, H⟩
theorem Zln {u : Tx} {g2 : Rg → Nat} {st2 : Rg → Nat → Rg} {t : Tx} (hN2 : Nm u g2 st2 256) (hUu : Un u) (hMt : Mem t) (hq : tq < 65536) (v : Nat) (s1 : Cs) (hv : Hid (g2 s.r = v)) (hs1 : Hid (s.wr tq v = s1)) (c : Int) (hc : cond ix 15 7 = c) (H : Hid (Ex W0 w x b s tq ix pg l (n + 1))) :
  CX 45 #[.pointer (some ⟨x, 0, none⟩), .string ⟨t.toArray⟩, .string ⟨u.toArray⟩] w (.int .i64 c) fun w' => Hid (Ex W0 w' x b s1 tq ix pg l n) := by
 have uuNN := hUu [40, 110, 110, 41] (by decide)
 have uuSP := hUu [83, 80] (by decide)
 have uuI := hUu [73] (by decide)
 have uuR := hUu [82] (by decide)
 have uuBC := hUu [40, 66, 67, 41] (by decide)
 have uuDE := hUu [40, 68, 69, 41] (by decide)
 have uuHL := hUu [40, 72, 76, 41] (by decide)
 have uuIX := hUu [40, 73, 88, 43, 100, 41] (by decide)
 have uuIY := hUu [40, 73, 89, 43, 100, 41] (by decide)
 have uun := hUu [110] (by decide)
 have uunn := hUu [110, 110] (by decide)
 have utNN : (t == [40, 110, 110, 41]) = false := by rcases hMt with rfl | rfl | rfl <;> decide
 have utSP : (t == [83, 80]) = false := by rcases hMt with rfl | rfl | rfl <;> decide
 have utI : (t == [73]) = false := by rcases hMt with rfl | rfl | rfl <;> decide
 have utR : (t == [82]) = false := by rcases hMt with rfl | rfl | rfl <;> decide
 have utBC : (t == [40, 66, 67, 41]) = false := by rcases hMt with rfl | rfl | rfl <;> decide
 have utDE : (t == [40, 68, 69, 41]) = false := by rcases hMt with rfl | rfl | rfl <;> decide
 go_enter Tryz.func45, Tryz.ntmps45
 go_wp2_with (first | (go_at_call 88; (with_reducible refine (Kb hN2 uun uuHL uuIX uuIY uuBC uuDE v hv H).mono ?_); clear H; rintro e w' ⟨rfl, bv, H⟩) | (go_at_call 87; (with_reducible refine (Kc t hMt v s1 hq bv hs1 H).mono ?_); clear H; rintro e w' ⟨rfl, H⟩) | (go_at_call 90; (with_reducible refine (YW _ uuHL uuIX uuIY _).mono ?_); rintro e w' ⟨rfl, rfl⟩) | (go_at_call 89; (with_reducible refine (JR t hMt _ _ _ c hc H).mono ?_); clear H; rintro e w' ⟨rfl, H⟩) | fail)
 go_ret
 exact ⟨rfl, H⟩
theorem Zlo {t : Tx} {g : Rg → Nat} {st : Rg → Nat → Rg} (hN1 : Nm t g st 256) (hUt : Un t) (v : Nat) (s1 : Cs) (hv : Hid (s.nextV = v)) (hs1 : Hid (s.next = s1)) (r : Rg) (hr : Hid (st s1.r v = r)) (H : Hid (Ex W0 w x b s tq ix pg l (n + 1))) :
  CX 45 #[.pointer (some ⟨x, 0, none⟩), .string ⟨t.toArray⟩, .string ⟨#[110]⟩] w (.int .i64 7) fun w' => Hid (Ex W0 w' x b (s1.setR r) tq ix pg l n) := by
 have utNN := hUt [40, 110, 110, 41] (by decide)
 have utSP := hUt [83, 80] (by decide)
 have utI := hUt [73] (by decide)
 have utR := hUt [82] (by decide)
 have utBC := hUt [40, 66, 67, 41] (by decide)
 have utDE := hUt [40, 68, 69, 41] (by decide)
 have utHL := hUt [40, 72, 76, 41] (by decide)
 have utIX := hUt [40, 73, 88, 43, 100, 41] (by decide)
 have utIY := hUt [40, 73, 89, 43, 100, 41] (by decide)
 have utn := hUt [110] (by decide)
 have utnn := hUt [110, 110] (by decide)
 go_enter Tryz.func45, Tryz.ntmps45
 go_wp2_with (first | (go_at_call 88; (with_reducible refine (jK v s1 hv hs1 H).mono ?_); clear H; rintro e w' ⟨rfl, bv, H⟩) | (go_at_call 87; (with_reducible refine (Zkf hN1 utn utHL utIX utIY utBC utDE v bv r hr H).mono ?_); clear H; rintro e w' ⟨rfl, H⟩) | (go_at_call 89; (with_reducible refine (Uc t _ _ _ utHL utIX utIY H).mono ?_); clear H; rintro e w' ⟨rfl, H⟩) | fail)
 go_ret
 exact ⟨rfl, H⟩
theorem Zlp {t : Tx} (hMt : Mem t) (hq : tq < 65536) (v : Nat) (s1 s2 : Cs) (hv : Hid (s.nextV = v)) (hs1 : Hid (s.next = s1)) (hs2 : Hid (s1.wr tq v = s2)) (c : Int) (hc : cond ix 15 10 = c) (H : Hid (Ex W0 w x b s tq ix pg l (n + 2))) :
  CX 45 #[.pointer (some ⟨x, 0, none⟩), .string ⟨t.toArray⟩, .string ⟨#[110]⟩] w (.int .i64 c) fun w' => Hid (Ex W0 w' x b s2 tq ix pg l n) := by
 have utNN : (t == [40, 110, 110, 41]) = false := by rcases hMt with rfl | rfl | rfl <;> decide
 have utSP : (t == [83, 80]) = false := by rcases hMt with rfl | rfl | rfl <;> decide
 have utI : (t == [73]) = false := by rcases hMt with rfl | rfl | rfl <;> decide
 have utR : (t == [82]) = false := by rcases hMt with rfl | rfl | rfl <;> decide
 have utBC : (t == [40, 66, 67, 41]) = false := by rcases hMt with rfl | rfl | rfl <;> decide
 have utDE : (t == [40, 68, 69, 41]) = false := by rcases hMt with rfl | rfl | rfl <;> decide
 go_enter Tryz.func45, Tryz.ntmps45
 go_wp2_with (first | (go_at_call 88; (with_reducible refine (jK v s1 hv hs1 H).mono ?_); clear H; rintro e w' ⟨rfl, bv, H⟩) | (go_at_call 87; (with_reducible refine (Kc t hMt v s2 hq bv hs2 H).mono ?_); clear H; rintro e w' ⟨rfl, H⟩) | (go_at_call 89; (with_reducible refine (JR t hMt _ _ _ c hc H).mono ?_); clear H; rintro e w' ⟨rfl, H⟩) | fail)
 go_ret
 exact ⟨rfl, H⟩
theorem k40 {P : Prop} (h : P := by
 go_wp2_with (first | (go_at_call 84; (with_reducible refine (VD v s1 hv hs1 H).mono ?_); clear H; rintro e w' ⟨rfl, bv, H⟩) | (go_at_call 49; (with_reducible refine (Z1 hN v bv r hr H).mono ?_); clear H; rintro e w' ⟨rfl, H⟩) | fail)
 go_ret
 exact ⟨rfl, H⟩) : P := h
theorem Zlq {t : Tx} {g : Rg → Nat} {st : Rg → Nat → Rg} (hN : Nm t g st 65536) (uNN : (t == [40, 110, 110, 41]) = false) (B : Bool) (uSP : (t == [83, 80]) = B) (v : Nat) (s1 : Cs) (hv : Hid (s.nextNumV = v)) (hs1 : Hid (s.nextNum = s1)) (r : Rg) (hr : Hid (st s1.r v = r)) (H : Hid (Ex W0 w x b s tq ix pg l (n + 2))) :
  CX 45 #[.pointer (some ⟨x, 0, none⟩), .string ⟨t.toArray⟩, .string ⟨#[110, 110]⟩] w (.int .i64 10) fun w' => Hid (Ex W0 w' x b (s1.setR r) tq ix pg l n) := by
 cases B
 ·go_enter Tryz.func45, Tryz.ntmps45
  exact k40
 ·go_enter Tryz.func45, Tryz.ntmps45
  exact k40
theorem Zlr {u : Tx} {g2 : Rg → Nat} {st2 : Rg → Nat → Rg} (hN : Nm u g2 st2 65536) (uNN : (u == [40, 110, 110, 41]) = false) (unn : (u == [110, 110]) = false) (v : Nat) (hv : Hid (g2 s.r = v)) (r : Rg) (hr : Hid (({ s.r with sp := v } : Rg) = r)) (H : Hid (Ex W0 w x b s tq ix pg l n)) :
  CX 45 #[.pointer (some ⟨x, 0, none⟩), .string ⟨#[83, 80]⟩, .string ⟨u.toArray⟩] w (.int .i64 6) fun w' => Hid (Ex W0 w' x b (s.setR r) tq ix pg l n) := by
 have bv : v < 65536 := by rw [← hv.out]; exact hN.lt _ H.out.fits
 go_enter Tryz.func45, Tryz.ntmps45
 go_wp2_with (first | (go_at_call 22; (with_reducible refine (Yq hN v hv H).mono ?_); clear H; rintro e w' ⟨rfl, H⟩) | (go_at_call 49; (with_reducible refine (Z1 nmSP v bv r hr H).mono ?_); clear H; rintro e w' ⟨rfl, H⟩) | fail)
 go_ret
 exact ⟨rfl, H⟩
theorem ZiN (z a : Nat) (s1 : Cs) (hz0 : Hid (s.r.b * 256 + s.r.c = z)) (ha : Hid (s.r.a = a)) (hs1 : Hid (s.wr z a = s1)) (j : Nat) (hj0 : Hid (a * 256 + (z + 1) % 256 = j)) (H : Hid (Ex W0 w x b s tq ix pg l (n + 1))) :
  CX 45 #[.pointer (some ⟨x, 0, none⟩), .string ⟨#[40, 66, 67, 41]⟩, .string ⟨#[65]⟩] w (.int .i64 7) fun w' => Hid (Ex W0 w' x b (s1.setWZ j) tq ix pg l n) := by
 obtain ⟨lo, hlo⟩ : ∃ x, Hid ((z + 1) % 256 = x) := ⟨_, rfl⟩
 have ba : a < 256 := by rw [← ha.out]; exact H.out.fits.a
 have blo : lo < 256 := by have := hlo.out; omega
 have hj : Hid (a * 256 + lo = j) := Zb (by rw [← hlo.out]; exact hj0.out)
 have bj : j < 65536 := by have := hj.out; omega
 have hz : Hid (s1.r.b * 256 + s1.r.c = z) := Zb (by rw [← hz0.out, ← hs1.out])
 have e1 : ((z : Int) + 1).tmod 256 = (lo : Int) := by rw [Int.tmod_eq_emod_of_nonneg (by omega)]; have := hlo.out; omega
 have e2 : IntKind.u8.wrap (lo : Int) = (lo : Int) := by rw [IntKind.wrap_u8]; omega
 have e3 : IntKind.i64.wrap ((z : Int) + 1) = (z : Int) + 1 := by have h := H.out.fits; have := h.b; have := h.c; have := h.d; have := h.e; have := hz0.out; rw [IntKind.wrap_i64]; omega
 have ha2 : s1.r.a = a := by rw [← ha.out, ← hs1.out]
 have HA := ha.out
 go_enter Tryz.func45, Tryz.ntmps45
 go_upto_region 19 with (first | refine a1 ?_ | (go_at_call 87; (try rw [HA]); (with_reducible refine (ZiL z a s1 ba hz0 hs1 H).mono ?_); clear H; rintro e w' ⟨rfl, H⟩) | fail)
 obtain ⟨HF, HG, X, HX, HM⟩ := H.out.hid
 (refine Zk 17 HM (by kernel_rfl) (by kernel_rfl) (by kernel_rfl) ?_; simp only [List.take_succ_cons, List.take_zero, List.drop_succ_cons, List.drop_zero]; (try simp only [Act.put, Ze, Zc, Zd]); repeat ((fail_if_success (with_reducible refine wpQuiet_nil ?_)); first | go_big_quiet_skip | (go_big_quiet_want; first | (refine a34 ?_; go_big_quiet_op; go_big_quiet_on) | (refine a17 ?_; go_big_quiet_op; go_big_quiet_on) | (refine a18 ?_; go_big_quiet_op; go_big_quiet_on) | ((with_reducible apply Zh); exact fun w => rfl; (focus (go_simp; all_goals with_reducible rfl)); (intro wq HQ; first | (with_reducible exact (VE nmBC z hz HF.out HQ)) | ((try rw [ha2]); with_reducible exact (Jd a lo j ba blo hj _).mono fun _ _ ⟨he, hw⟩ => ⟨he, hw ▸ Below.refl _ _⟩)); go_big_quiet_op; go_big_quiet_on) | (go_big_quiet_op; go_big_quiet_on) | (go_big_quiet_op; refine ⟨_, fun _ _ => rfl, ?_⟩; go_big_quiet_on))))
 refine wpQuiet_nil ?_
 intro w' HM'
 clear H
 have H := Zb (Ex.made HM'.out HG.out HX.out HF.out)
 clear HM HM' HF HG HX
 go_wp2_with (first | (refine a2 ?_; clear H; intro w' H) | fail)
 go_ret
 exact ⟨rfl, H⟩
theorem ZiO (z q v : Nat) (s1 : Cs) (hz : Hid (s.r.b * 256 + s.r.c = z)) (hq : Hid (up1 z = q)) (hv : Hid (s.m z = v)) (hs1 : Hid ((s.setWZ q).rd z = s1)) (H : Hid (Ex W0 w x b s tq ix pg l (n + 1))) :
  CX 45 #[.pointer (some ⟨x, 0, none⟩), .string ⟨#[65]⟩, .string ⟨#[40, 66, 67, 41]⟩] w (.int .i64 7) fun w' => Hid (Ex W0 w' x b (s1.setA v) tq ix pg l n) := by
 have z8 : z < 65536 := by have h := H.out.fits; have := h.b; have := h.c; have := h.d; have := h.e; have := hz.out; omega
 have hq2 : Hid (wMove z 1 = q) := hq
 have q8 : q < 65536 := by rw [← hq.out]; exact Zy z
 obtain ⟨s0, hs0⟩ : ∃ x, Hid (s.setWZ q = x) := ⟨_, rfl⟩
 have hz2 : Hid (s0.r.b * 256 + s0.r.c = z) := Zb (by rw [← hz.out, ← hs0.out])
 have hv2 : Hid (s0.m z = v) := Zb (by rw [← hv.out, ← hs0.out])
 have hs2 : Hid (s0.rd z = s1) := Zb (by rw [← hs1.out, ← hs0.out])
 have es0 := hs0.out
 go_enter Tryz.func45, Tryz.ntmps45
 go_upto_region 23 with (first | refine a1 ?_ | (refine a2 ?_; clear H; intro w' H) | (refine Ym (i := 1) (j := 3) tStr rfl rfl rfl rfl rfl rfl (by decide) (by decide) rfl rfl ?_) | (go_at_call 22; (with_reducible refine (Yq nmBC z hz H).mono ?_); clear H; rintro e w' ⟨rfl, H⟩) | (go_at_call 35; (with_reducible refine (Z6 z q z8 hq2 _).mono ?_); rintro e w' ⟨rfl, rfl⟩) | fail)
 rw [es0] at H
 go_wp2_with (first | refine a1 ?_ | (refine a2 ?_; clear H; intro w' H) | (go_at_call 88; (with_reducible refine (Zfr z v s1 hz2 hv2 hs2 H).mono ?_); clear H; rintro e w' ⟨rfl, bv, H⟩) | fail)
 go_ret
 exact ⟨rfl, H⟩
theorem ZiP (z a : Nat) (s1 : Cs) (hz0 : Hid (s.r.d * 256 + s.r.e = z)) (ha : Hid (s.r.a = a)) (hs1 : Hid (s.wr z a = s1)) (j : Nat) (hj0 : Hid (a * 256 + (z + 1) % 256 = j)) (H : Hid (Ex W0 w x b s tq ix pg l (n + 1))) :
  CX 45 #[.pointer (some ⟨x, 0, none⟩), .string ⟨#[40, 68, 69, 41]⟩, .string ⟨#[65]⟩] w (.int .i64 7) fun w' => Hid (Ex W0 w' x b (s1.setWZ j) tq ix pg l n) := by
 obtain ⟨lo, hlo⟩ : ∃ x, Hid ((z + 1) % 256 = x) := ⟨_, rfl⟩
 have ba : a < 256 := by rw [← ha.out]; exact H.out.fits.a
 have blo : lo < 256 := by have := hlo.out; omega
 have hj : Hid (a * 256 + lo = j) := Zb (by rw [← hlo.out]; exact hj0.out)
 have bj : j < 65536 := by have := hj.out; omega
 have hz : Hid (s1.r.d * 256 + s1.r.e = z) := Zb (by rw [← hz0.out, ← hs1.out])
 have e1 : ((z : Int) + 1).tmod 256 = (lo : Int) := by rw [Int.tmod_eq_emod_of_nonneg (by omega)]; have := hlo.out; omega
 have e2 : IntKind.u8.wrap (lo : Int) = (lo : Int) := by rw [IntKind.wrap_u8]; omega
 have e3 : IntKind.i64.wrap ((z : Int) + 1) = (z : Int) + 1 := by have h := H.out.fits; have := h.b; have := h.c; have := h.d; have := h.e; have := hz0.out; rw [IntKind.wrap_i64]; omega
 have ha2 : s1.r.a = a := by rw [← ha.out, ← hs1.out]
 have HA := ha.out
 go_enter Tryz.func45, Tryz.ntmps45
 go_upto_region 19 with (first | refine a1 ?_ | (go_at_call 87; (try rw [HA]); (with_reducible refine (ZiM z a s1 ba hz0 hs1 H).mono ?_); clear H; rintro e w' ⟨rfl, H⟩) | fail)
 obtain ⟨HF, HG, X, HX, HM⟩ := H.out.hid
 (refine Zk 17 HM (by kernel_rfl) (by kernel_rfl) (by kernel_rfl) ?_; simp only [List.take_succ_cons, List.take_zero, List.drop_succ_cons, List.drop_zero]; (try simp only [Act.put, Ze, Zc, Zd]); repeat ((fail_if_success (with_reducible refine wpQuiet_nil ?_)); first | go_big_quiet_skip | (go_big_quiet_want; first | (refine a34 ?_; go_big_quiet_op; go_big_quiet_on) | (refine a17 ?_; go_big_quiet_op; go_big_quiet_on) | (refine a18 ?_; go_big_quiet_op; go_big_quiet_on) | ((with_reducible apply Zh); exact fun w => rfl; (focus (go_simp; all_goals with_reducible rfl)); (intro wq HQ; first | (with_reducible exact (VE nmDE z hz HF.out HQ)) | ((try rw [ha2]); with_reducible exact (Jd a lo j ba blo hj _).mono fun _ _ ⟨he, hw⟩ => ⟨he, hw ▸ Below.refl _ _⟩)); go_big_quiet_op; go_big_quiet_on) | (go_big_quiet_op; go_big_quiet_on) | (go_big_quiet_op; refine ⟨_, fun _ _ => rfl, ?_⟩; go_big_quiet_on))))
 refine wpQuiet_nil ?_
 intro w' HM'
 clear H
 have H := Zb (Ex.made HM'.out HG.out HX.out HF.out)
 clear HM HM' HF HG HX
 go_wp2_with (first | (refine a2 ?_; clear H; intro w' H) | fail)
 go_ret
 exact ⟨rfl, H⟩
theorem ZiQ (z q v : Nat) (s1 : Cs) (hz : Hid (s.r.d * 256 + s.r.e = z)) (hq : Hid (up1 z = q)) (hv : Hid (s.m z = v)) (hs1 : Hid ((s.setWZ q).rd z = s1)) (H : Hid (Ex W0 w x b s tq ix pg l (n + 1))) :
  CX 45 #[.pointer (some ⟨x, 0, none⟩), .string ⟨#[65]⟩, .string ⟨#[40, 68, 69, 41]⟩] w (.int .i64 7) fun w' => Hid (Ex W0 w' x b (s1.setA v) tq ix pg l n) := by
 have z8 : z < 65536 := by have h := H.out.fits; have := h.b; have := h.c; have := h.d; have := h.e; have := hz.out; omega
 have hq2 : Hid (wMove z 1 = q) := hq
 have q8 : q < 65536 := by rw [← hq.out]; exact Zy z
 obtain ⟨s0, hs0⟩ : ∃ x, Hid (s.setWZ q = x) := ⟨_, rfl⟩
 have hz2 : Hid (s0.r.d * 256 + s0.r.e = z) := Zb (by rw [← hz.out, ← hs0.out])
 have hv2 : Hid (s0.m z = v) := Zb (by rw [← hv.out, ← hs0.out])
 have hs2 : Hid (s0.rd z = s1) := Zb (by rw [← hs1.out, ← hs0.out])
 have es0 := hs0.out
 go_enter Tryz.func45, Tryz.ntmps45
 go_upto_region 23 with (first | refine a1 ?_ | (refine a2 ?_; clear H; intro w' H) | (refine Ym (i := 1) (j := 3) tStr rfl rfl rfl rfl rfl rfl (by decide) (by decide) rfl rfl ?_) | (go_at_call 22; (with_reducible refine (Yq nmDE z hz H).mono ?_); clear H; rintro e w' ⟨rfl, H⟩) | (go_at_call 35; (with_reducible refine (Z6 z q z8 hq2 _).mono ?_); rintro e w' ⟨rfl, rfl⟩) | fail)
 rw [es0] at H
 go_wp2_with (first | refine a1 ?_ | (refine a2 ?_; clear H; intro w' H) | (go_at_call 88; (with_reducible refine (Zfs z v s1 hz2 hv2 hs2 H).mono ?_); clear H; rintro e w' ⟨rfl, bv, H⟩) | fail)
 go_ret
 exact ⟨rfl, H⟩
theorem Zls (a q : Nat) (s1 s2 : Cs) (ha : Hid (s.nextNumV = a)) (hs1 : Hid (s.nextNum = s1)) (hq0 : Hid (up1 a = q)) (hs2 : Hid (s1.setWZ q = s2)) (v : Nat) (s3 : Cs) (hv : Hid (s2.m a = v)) (hs3 : Hid (s2.rd a = s3)) (H : Hid (Ex W0 w x b s tq ix pg l (n + 3))) :
  CX 83 #[.pointer (some ⟨x, 0, none⟩), .string ⟨#[65]⟩, .string ⟨#[40, 110, 110, 41]⟩] w (.int .i64 13) fun w' => Hid (Ex W0 w' x b (s3.setA v) tq ix pg l n) := by
 have hq : Hid (wMove a 1 = q) := Zb hq0.out
 have q8 : q < 65536 := by rw [← hq0.out]; exact Zy a
 by_cases hp : (pg == 2) = true
 all_goals (try (have hp : (pg == 2) = false := by simpa using hp))
 all_goals
  go_enter Tryz.func83, Tryz.ntmps83
  go_upto_region 3 with (first | (go_at_call 84; (with_reducible refine (VD a s1 ha hs1 H).mono ?_); clear H; rintro e w' ⟨rfl, ba, H⟩) | (refine a2 ?_; clear H; intro w' H) | refine a1 ?_ | (go_at_call 35; (with_reducible refine (Z6 a q ba hq _).mono ?_); rintro e w' ⟨rfl, rfl⟩) | fail)
  rw [hs2.out] at H
  go_wp2_with (first | refine a1 ?_ | (refine a2 ?_; clear H; intro w' H) | (go_at_call 36; (with_reducible refine (VV a v s3 ba hv hs3 H).mono ?_); clear H; rintro e w' ⟨rfl, bv, H⟩) | fail)
  go_ret
  exact ⟨rfl, H⟩
end
end Go.Proofs.YtgdeeiimkhjfiaaGreatDoor
