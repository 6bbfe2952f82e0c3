import Derived.Test.YtgdeeiimkhjfiaaGreatDoorV35
set_option maxRecDepth 100000
set_option maxHeartbeats 6400000
namespace Go.Proofs.YtgdeeiimkhjfiaaGreatDoor
open Go.RowKit
section
variable {W0 w : World} {x b tq n c : Nat} {s : Cs} {ix : Bool} {pg : Int} {l : Zj}
theorem ZlM (p v : Nat) (s' : Cs) (hp : p < 65536) (hv : v < 256) (hs : Hid (s.op p v 8 = s')) (H : Hid (Ex W0 w x b s tq ix pg l (n + 1))) :
  CX 102 #[.pointer (some ⟨b, 0, none⟩), .int .u16 (p : Int), .int .u8 (v : Int), .int .i64 8] w (.tuple #[]) fun w' => Hid (Ex W0 w' x b s' tq ix pg l n) := by
 have h := UT p v 8 hp hv (by decide) (Zb H.out.fx)
 exact h.mono fun _ _ ⟨he, hf⟩ => ⟨he, hs.out ▸ Zb ⟨H.out.fits, hf.out⟩⟩
theorem xin_8 (p v : Nat) (s' : Cs) (hp : p < 65536) (hv : Hid (s.ipV p 8 = v)) (hs : Hid (s.ip p 8 = s')) (H : Hid (Ex W0 w x b s tq ix pg l (n + 1))) :
  CX 103 #[.pointer (some ⟨b, 0, none⟩), .int .u16 (p : Int), .int .i64 8] w (.int .u8 (v : Int)) fun w' => v < 256 ∧ Hid (Ex W0 w' x b s' tq ix pg l n) := by
 have h := jN p 8 hp (by decide) (Zb H.out.fx)
 have v8 : v < 256 := by rw [← hv.out]; exact Nat.mod_lt _ (by decide)
 rw [show s.u.ipV p 8 = v from hv.out] at h
 exact h.mono fun _ _ ⟨he, hf⟩ => ⟨he, v8, hs.out ▸ Zb ⟨H.out.fits, hf.out⟩⟩
theorem ZgN (p v : Nat) (s' : Cs) (hp : p < 65536) (hv : v < 256) (hs : Hid (s.op p v 9 = s')) (H : Hid (Ex W0 w x b s tq ix pg l (n + 1))) :
  CX 102 #[.pointer (some ⟨b, 0, none⟩), .int .u16 (p : Int), .int .u8 (v : Int), .int .i64 9] w (.tuple #[]) fun w' => Hid (Ex W0 w' x b s' tq ix pg l n) := by
 have h := UT p v 9 hp hv (by decide) (Zb H.out.fx)
 exact h.mono fun _ _ ⟨he, hf⟩ => ⟨he, hs.out ▸ Zb ⟨H.out.fits, hf.out⟩⟩
theorem ZlN (p v : Nat) (s' : Cs) (hp : p < 65536) (hv : Hid (s.ipV p 9 = v)) (hs : Hid (s.ip p 9 = s')) (H : Hid (Ex W0 w x b s tq ix pg l (n + 1))) :
  CX 103 #[.pointer (some ⟨b, 0, none⟩), .int .u16 (p : Int), .int .i64 9] w (.int .u8 (v : Int)) fun w' => v < 256 ∧ Hid (Ex W0 w' x b s' tq ix pg l n) := by
 have h := jN p 9 hp (by decide) (Zb H.out.fx)
 have v8 : v < 256 := by rw [← hv.out]; exact Nat.mod_lt _ (by decide)
 rw [show s.u.ipV p 9 = v from hv.out] at h
 exact h.mono fun _ _ ⟨he, hf⟩ => ⟨he, v8, hs.out ▸ Zb ⟨H.out.fits, hf.out⟩⟩
theorem Zi5 (p v : Nat) (s' : Cs) (hp : p < 65536) (hv : v < 256) (hs : Hid (s.op p v 13 = s')) (H : Hid (Ex W0 w x b s tq ix pg l (n + 1))) :
  CX 102 #[.pointer (some ⟨b, 0, none⟩), .int .u16 (p : Int), .int .u8 (v : Int), .int .i64 13] w (.tuple #[]) fun w' => Hid (Ex W0 w' x b s' tq ix pg l n) := by
 have h := UT p v 13 hp hv (by decide) (Zb H.out.fx)
 exact h.mono fun _ _ ⟨he, hf⟩ => ⟨he, hs.out ▸ Zb ⟨H.out.fits, hf.out⟩⟩
theorem ZlO (p v : Nat) (s' : Cs) (hp : p < 65536) (hv : Hid (s.ipV p 13 = v)) (hs : Hid (s.ip p 13 = s')) (H : Hid (Ex W0 w x b s tq ix pg l (n + 1))) :
  CX 103 #[.pointer (some ⟨b, 0, none⟩), .int .u16 (p : Int), .int .i64 13] w (.int .u8 (v : Int)) fun w' => v < 256 ∧ Hid (Ex W0 w' x b s' tq ix pg l n) := by
 have h := jN p 13 hp (by decide) (Zb H.out.fx)
 have v8 : v < 256 := by rw [← hv.out]; exact Nat.mod_lt _ (by decide)
 rw [show s.u.ipV p 13 = v from hv.out] at h
 exact h.mono fun _ _ ⟨he, hf⟩ => ⟨he, v8, hs.out ▸ Zb ⟨H.out.fits, hf.out⟩⟩
theorem ZfD (d : Nat) (s1 : Cs) (hd : Hid (s.nextV = d)) (hs1 : Hid (s.next = s1)) (a p : Nat) (ha : Hid (s1.r.a = a)) (hp0 : Hid (a * 256 + d = p)) (s2 : Cs) (hs2 : Hid (s1.op p a 8 = s2)) (j : Nat) (hj0 : Hid (a * 256 + (d + 1) % 256 = j)) (H : Hid (Ex W0 w x b s tq ix pg l (n + 2))) :
  CX 52 #[.pointer (some ⟨x, 0, none⟩), .string ⟨#[79, 85, 84]⟩, .string ⟨#[40, 110, 41]⟩, .string ⟨#[65]⟩] w (.int .i64 11) fun w' => Hid (Ex W0 w' x b (s2.setWZ j) tq ix pg l n) := by
 obtain ⟨lo, hlo⟩ : ∃ x, Hid ((d + 1) % 256 = x) := ⟨_, rfl⟩
 have a8 : a < 256 := by rw [← ha.out, ← hs1.out]; exact H.out.fits.a
 have d8 : d < 256 := by rw [← hd.out]; exact Ex.m8 H _
 have blo : lo < 256 := by have := hlo.out; omega
 have hj : Hid (a * 256 + lo = j) := Zb (by rw [← hlo.out]; exact hj0.out)
 have bj : j < 65536 := by have := hj.out; omega
 have p8 : p < 65536 := by have := hp0.out; omega
 have e1 : ((d : Int) + 1).tmod 256 = (lo : Int) := by rw [Int.tmod_eq_emod_of_nonneg (by omega)]; have := hlo.out; omega
 have e2 : IntKind.u8.wrap (lo : Int) = (lo : Int) := by rw [IntKind.wrap_u8]; omega
 have ha0 := ha.out
 have ha2 : s2.r.a = a := by rw [← ha.out, ← hs2.out]
 go_enter Tryz.func52, Tryz.ntmps52
 go_upto_region 5 with (first | refine a1 ?_ | (go_at_call 19; (with_reducible refine (VC d s1 hd hs1 H).mono ?_); clear H; rintro e w' ⟨rfl, bd, H⟩) | (go_at_call 60; (try rw [ha0]); (with_reducible refine (Jd a d p a8 d8 hp0 _).mono ?_); rintro e w' ⟨rfl, rfl⟩) | fail)
 obtain ⟨HF, HG, X, HX, HM⟩ := H.out.hid
 (refine Zk 10 HM (by kernel_rfl) (by kernel_rfl) (by kernel_rfl) ?_; simp only [List.take_succ_cons, List.take_zero, List.drop_succ_cons, List.drop_zero]; (try simp only [Act.put, Ze, Zc, Zd]); repeat ((fail_if_success (with_reducible refine wpQuiet_nil ?_)); first | go_big_quiet_skip | (go_big_quiet_want; first | (refine a17 ?_; go_big_quiet_op; go_big_quiet_on) | (refine a18 ?_; go_big_quiet_op; go_big_quiet_on) | (go_big_quiet_op; go_big_quiet_on) | (go_big_quiet_op; refine ⟨_, fun _ _ => rfl, ?_⟩; go_big_quiet_on))))
 refine wpQuiet_nil ?_
 intro w' HM'
 clear H
 have H := Zb (Ex.made HM'.out HG.out HX.out HF.out)
 clear HM HM' HF HG HX
 go_upto_region 6 with (first | (go_at_call 102; (try rw [ha0]); (with_reducible refine (ZlM p a s2 p8 a8 hs2 H).mono ?_); clear H; rintro e w' ⟨rfl, H⟩) | fail)
 go_wp2_with (first | refine a1 ?_ | (refine a2 ?_; clear H; intro w' H) | (go_at_call 60; (try rw [ha2]); (with_reducible refine (Jd a lo j a8 blo hj _).mono ?_); rintro e w' ⟨rfl, rfl⟩) | fail)
 go_ret
 exact ⟨rfl, H⟩
theorem ZfE (d : Nat) (s1 : Cs) (hd : Hid (s.nextV = d)) (hs1 : Hid (s.next = s1)) (a p q : Nat) (ha : Hid (s1.r.a = a)) (hp0 : Hid (a * 256 + d = p)) (hq0 : Hid (up1 p = q)) (s2 : Cs) (hs2 : Hid (s1.setWZ q = s2)) (v : Nat) (hv : Hid (s2.ipV p 8 = v)) (s3 : Cs) (hs3 : Hid (s2.ip p 8 = s3)) (H : Hid (Ex W0 w x b s tq ix pg l (n + 2))) :
  CX 52 #[.pointer (some ⟨x, 0, none⟩), .string ⟨#[73, 78]⟩, .string ⟨#[65]⟩, .string ⟨#[40, 110, 41]⟩] w (.int .i64 11) fun w' => Hid (Ex W0 w' x b (s3.setA v) tq ix pg l n) := by
 have a8 : a < 256 := by rw [← ha.out, ← hs1.out]; exact H.out.fits.a
 have d8 : d < 256 := by rw [← hd.out]; exact Ex.m8 H _
 have p8 : p < 65536 := by have := hp0.out; omega
 have hq : Hid (wMove p 1 = q) := Zb hq0.out
 have q8 : q < 65536 := by rw [← hq0.out]; exact Zy p
 have ha0 := ha.out
 have es2 := hs2.out
 go_enter Tryz.func52, Tryz.ntmps52
 go_upto_region 8 with (first | refine a1 ?_ | (refine a2 ?_; clear H; intro w' H) | (go_at_call 19; (with_reducible refine (VC d s1 hd hs1 H).mono ?_); clear H; rintro e w' ⟨rfl, bd, H⟩) | (go_at_call 60; (try rw [ha0]); (with_reducible refine (Jd a d p a8 d8 hp0 _).mono ?_); rintro e w' ⟨rfl, rfl⟩) | (go_at_call 35; (with_reducible refine (Z6 p q p8 hq _).mono ?_); rintro e w' ⟨rfl, rfl⟩) | fail)
 rw [es2] at H
 go_wp2_with (first | refine a1 ?_ | (refine a2 ?_; clear H; intro w' H) | (go_at_call 103; (with_reducible refine (xin_8 p v s3 p8 hv hs3 H).mono ?_); clear H; rintro e w' ⟨rfl, bv, H⟩) | fail)
 go_ret
 exact ⟨rfl, H⟩
theorem ZfF {u : Tx} {g2 : Rg → Nat} {st2 : Rg → Nat → Rg} (hN2 : Nm u g2 st2 256) (hUu : Un u) (z q : Nat) (hz : Hid (s.r.b * 256 + s.r.c = z)) (hq0 : Hid (up1 z = q)) (s1 : Cs) (hs1 : Hid (s.setWZ q = s1)) (v : Nat) (hv : Hid (g2 s1.r = v)) (s2 : Cs) (hs2 : Hid (s1.op z v 9 = s2)) (H : Hid (Ex W0 w x b s tq ix pg l (n + 1))) :
  CX 52 #[.pointer (some ⟨x, 0, none⟩), .string ⟨#[79, 85, 84]⟩, .string ⟨#[40, 67, 41]⟩, .string ⟨u.toArray⟩] w (.int .i64 12) fun w' => Hid (Ex W0 w' x b s2 tq ix pg l n) := by
 have uuz := hUu [48] (by decide)
 have uupn := hUu [40, 110, 41] (by decide)
 have v8 : v < 256 := by rw [← hv.out, ← hs1.out]; exact hN2.lt _ { H.out.fits with wz := by rw [← hq0.out]; exact Zy z }
 have z8 : z < 65536 := by have h := H.out.fits; have := h.b; have := h.c; have := hz.out; omega
 have hq : Hid (wMove z 1 = q) := Zb hq0.out
 have q8 : q < 65536 := by rw [← hq0.out]; exact Zy z
 have es1 := hs1.out
 go_enter Tryz.func52, Tryz.ntmps52
 go_upto_region 12 with (first | refine a1 ?_ | (refine a2 ?_; clear H; intro w' H) | (go_at_call 22; (with_reducible refine (Yq nmBC z hz H).mono ?_); clear H; rintro e w' ⟨rfl, H⟩) | (go_at_call 35; (with_reducible refine (Z6 z q z8 hq _).mono ?_); rintro e w' ⟨rfl, rfl⟩) | fail)
 rw [es1] at H
 go_wp2_with (first | refine a1 ?_ | (go_at_call 22; (with_reducible refine (Yq hN2 v hv H).mono ?_); clear H; rintro e w' ⟨rfl, H⟩) | (go_at_call 102; (with_reducible refine (ZgN z v s2 z8 v8 hs2 H).mono ?_); clear H; rintro e w' ⟨rfl, H⟩) | fail)
 go_ret
 exact ⟨rfl, H⟩
theorem ZfG (z q : Nat) (hz : Hid (s.r.b * 256 + s.r.c = z)) (hq0 : Hid (up1 z = q)) (s1 : Cs) (hs1 : Hid (s.setWZ q = s1)) (s2 : Cs) (hs2 : Hid (s1.op z 0 9 = s2)) (H : Hid (Ex W0 w x b s tq ix pg l (n + 1))) :
  CX 52 #[.pointer (some ⟨x, 0, none⟩), .string ⟨#[79, 85, 84]⟩, .string ⟨#[40, 67, 41]⟩, .string ⟨#[48]⟩] w (.int .i64 12) fun w' => Hid (Ex W0 w' x b s2 tq ix pg l n) := by
 have z8 : z < 65536 := by have h := H.out.fits; have := h.b; have := h.c; have := hz.out; omega
 have hq : Hid (wMove z 1 = q) := Zb hq0.out
 have q8 : q < 65536 := by rw [← hq0.out]; exact Zy z
 have es1 := hs1.out
 go_enter Tryz.func52, Tryz.ntmps52
 go_upto_region 12 with (first | refine a1 ?_ | (refine a2 ?_; clear H; intro w' H) | (go_at_call 22; (with_reducible refine (Yq nmBC z hz H).mono ?_); clear H; rintro e w' ⟨rfl, H⟩) | (go_at_call 35; (with_reducible refine (Z6 z q z8 hq _).mono ?_); rintro e w' ⟨rfl, rfl⟩) | fail)
 rw [es1] at H
 go_wp2_with (first | refine a1 ?_ | (go_at_call 102; (refine (ZgN z 0 s2 z8 (by decide) hs2 H).mono ?_); clear H; rintro e w' ⟨rfl, H⟩) | fail)
 go_ret
 exact ⟨rfl, H⟩
theorem vf (a v f : Nat) (ha : a < 256) (hv : Hid (ZY 0 a 0 = v)) (hf : Hid (ZU 0 a 0 = f)) (w : World) :
  Calls Tryz.prog 108 #[.int .u8 0, .int .u8 (a : Int), .bool false] w fun e w' => e = .returned (.tuple #[.int .u8 (v : Int), .int .u8 (f : Int)]) ∧ Below w.heap.size w w' := JQ 0 a false v f (by decide) ha hv hf w
theorem xneg (a p y : Nat) (ha : Hid (s.r.a = a)) (hp : Hid (ZY 0 a 0 = p)) (hy : Hid (ZU 0 a 0 = y)) (H : Hid (Ex W0 w x b s tq ix pg l n)) :
  CX 54 #[.pointer (some ⟨x, 0, none⟩), .string ⟨#[78, 69, 71]⟩, .string ⟨#[]⟩] w (.int .i64 8) fun w' => Hid (Ex W0 w' x b ((s.setA p).setF y) tq ix pg l n) := by
 have a8 : a < 256 := by rw [← ha.out]; exact H.out.fits.a
 have p8 : p < 256 := by rw [← hp.out]; exact Yn _ _ _
 have y8 : y < 256 := by rw [← hy.out]; exact Zm _ _ _ _ _ _ _ _
 have ha0 := ha.out
 go_enter Tryz.func54, Tryz.ntmps54
 go_wp2_with (first | refine a1 ?_ | (refine a2 ?_; clear H; intro w' H) | (go_at_call 108; (try rw [ha0]); (with_reducible refine (vf a p y a8 hp hy _).mono ?_); rintro e w' ⟨rfl, hb⟩; replace H := Zb (H.out.call hb); clear hb) | (go_at_call 108; (try rw [ha0]); (with_reducible refine (vf a p y a8 hp hy _).mono ?_); rintro e w' ⟨rfl, rfl⟩) | fail)
 go_ret
 exact ⟨rfl, H⟩
theorem xim (t : Tx) (hl : 0 < t.length) (c : UInt8) (hc : Hid (t.getD 0 0 = c)) (y m : Nat) (hy : Hid (c.toNat = y)) (hm : Hid (y - 48 = m)) (y1 : 48 ≤ y) (H : Hid (Ex W0 w x b s tq ix pg l n)) :
  CX 54 #[.pointer (some ⟨x, 0, none⟩), .string ⟨#[73, 77]⟩, .string ⟨t.toArray⟩] w (.int .i64 8) fun w' => Hid (Ex W0 w' x b (s.setIM m) tq ix pg l n) := by
 have y8 : y < 256 := by rw [← hy.out]; exact c.toNat_lt
 have k8 : m < 256 := by have := hm.out; omega
 have e1 : IntKind.u8.wrap ((y : Int) - 48) = (m : Int) := by rw [IntKind.wrap_u8]; have := hm.out; omega
 go_enter Tryz.func54, Tryz.ntmps54
 go_wp2_with (first | refine a1 ?_ | (refine a2 ?_; clear H; intro w' H) | (refine J6 (s := t) (k := 0) tStr rfl rfl rfl hl rfl ?_; rw [hc.out, hy.out]) | fail)
 go_ret
 exact ⟨rfl, H⟩
theorem ZlP  (H : Hid (Ex W0 w x b s tq ix pg l n)) :
  CX 54 #[.pointer (some ⟨x, 0, none⟩), .string ⟨#[78, 79, 80]⟩, .string ⟨#[]⟩] w (.int .i64 8) fun w' => Hid (Ex W0 w' x b s tq ix pg l n) := by
 go_enter Tryz.func54, Tryz.ntmps54
 go_wp2_with (first | refine a1 ?_ | fail)
 go_ret
 exact ⟨rfl, H⟩
theorem ZfH {t : Tx} {g : Rg → Nat} {st : Rg → Nat → Rg} (hN1 : Nm t g st 256) (hUt : Un t) (z q : Nat) (hz : Hid (s.r.b * 256 + s.r.c = z)) (hq0 : Hid (up1 z = q)) (s1 : Cs) (hs1 : Hid (s.setWZ q = s1)) (v : Nat) (s2 : Cs) (hv : Hid (s1.ipV z 9 = v)) (hs2 : Hid (s1.ip z 9 = s2)) (f y : Nat) (hf : Hid (s2.r.f = f)) (hy : Hid (Zq (nS v) (nZ v) (Zf 32 v) false (Zf 8 v) (Jt v) false (Zf 1 f) = y)) (r : Rg) (hr : Hid (st (s2.setF y).r v = r)) (H : Hid (Ex W0 w x b s tq ix pg l (n + 1))) :
  CX 52 #[.pointer (some ⟨x, 0, none⟩), .string ⟨#[73, 78]⟩, .string ⟨t.toArray⟩, .string ⟨#[40, 67, 41]⟩] w (.int .i64 12) fun w' => Hid (Ex W0 w' x b ((s2.setF y).setR r) tq ix pg l n) := by
 have utpn := hUt [40, 110, 41] (by decide)
 have z8 : z < 65536 := by have h := H.out.fits; have := h.b; have := h.c; have := hz.out; omega
 have hq : Hid (wMove z 1 = q) := Zb hq0.out
 have q8 : q < 65536 := by rw [← hq0.out]; exact Zy z
 have es1 := hs1.out
 have v8 : v < 256 := by rw [← hv.out]; exact Nat.mod_lt _ (by decide)
 have f8 : f < 256 := by rw [← hf.out, ← hs2.out, ← hs1.out]; exact H.out.fits.f
 have y8 : y < 256 := by rw [← hy.out]; exact Zm _ _ _ _ _ _ _ _
 have f1 := hf.out
 obtain ⟨S, hS⟩ : ∃ b, nS v = b := ⟨_, rfl⟩
 obtain ⟨Z, hZ⟩ : ∃ b, nZ v = b := ⟨_, rfl⟩
 obtain ⟨Y, hY⟩ : ∃ b, Zf 32 v = b := ⟨_, rfl⟩
 obtain ⟨X8, hX8⟩ : ∃ b, Zf 8 v = b := ⟨_, rfl⟩
 obtain ⟨C, hC⟩ : ∃ b, Zf 1 f = b := ⟨_, rfl⟩
 obtain ⟨P, hP⟩ : ∃ b, Jt v = b := ⟨_, rfl⟩
 have hsh := Zb (fun w => Z3 v S Z Y X8 v8 (Zb ⟨hS, hZ, hY, hX8⟩) w)
 have hpa := Zb (fun w => JF v P v8 (Zb hP) w)
 have hby := Zb (fun w => Zs S Z Y false X8 P false C y (Zb (by rw [← hS, ← hZ, ← hY, ← hX8, ← hC, ← hP]; exact hy.out)) w)
 have eC : ((f : Int) % 2 == 1) = C := by
  exact k46
 clear hS hZ hY hX8 hC hP
 go_enter Tryz.func52, Tryz.ntmps52
 go_upto_region 12 with (first | refine a1 ?_ | (refine a2 ?_; clear H; intro w' H) | (go_at_call 22; (with_reducible refine (Yq nmBC z hz H).mono ?_); clear H; rintro e w' ⟨rfl, H⟩) | (go_at_call 35; (with_reducible refine (Z6 z q z8 hq _).mono ?_); rintro e w' ⟨rfl, rfl⟩) | fail)
 rw [es1] at H
 go_upto_region 19 with (first | refine a1 ?_ | (go_at_call 103; (with_reducible refine (ZlN z v s2 z8 hv hs2 H).mono ?_); clear H; rintro e w' ⟨rfl, _, H⟩) | fail)
 obtain ⟨HF, HG, X, HX, HM⟩ := H.out.hid
 clear H
 go_upto_region 22 with (first | refine b16 ?_ | (refine b7 ?_; clear HM; intro w' g' HM) | (refine a12 ?_; clear HM; intro w' HM) | (go_at_call 85; (with_reducible refine (hsh.out _).mono ?_); rintro e w' ⟨rfl, hb⟩; replace HM := Zb (HM.out.call hb); clear hb) | (go_at_call 104; (with_reducible refine (hpa.out _).mono ?_); rintro e w' ⟨rfl, rfl⟩))
 go_upto_region 23 with (first | (refine b7 ?_; clear HM; intro w' g' HM) | refine b8 ?_ | (refine a12 ?_; clear HM; intro w' HM) | (go_at_call 86; (with_reducible refine (hby.out _).mono ?_); rintro e w' ⟨rfl, hb⟩; replace HM := Zb (HM.out.call hb); clear hb) | ((with_reducible apply Ye HM); exact rfl; exact rfl; exact rfl; exact .s .z; exact Zkd; exact .s .z; exact oneU8.size; exact rfl; exact rfl; (rw [xc_length]; decide); exact rfl; clear HM; intro w' HM))
 have hf' : (s2.setF y).r.Fits := { HF.out with f := y8 }
 have H := Zb (Ex.made (n := n) HM.out.forget HG.out HX.out hf')
 clear HM HF HG HX
 go_wp2_with (first | (go_at_call 49; (with_reducible refine (Z1 hN1 v v8 r hr H).mono ?_); clear H; rintro e w' ⟨rfl, H⟩) | fail)
 go_ret
 exact ⟨rfl, H⟩
theorem Zi6 (z q : Nat) (hz : Hid (s.r.b * 256 + s.r.c = z)) (hq0 : Hid (up1 z = q)) (s1 : Cs) (hs1 : Hid (s.setWZ q = s1)) (v : Nat) (s2 : Cs) (hv : Hid (s1.ipV z 9 = v)) (hs2 : Hid (s1.ip z 9 = s2)) (f y : Nat) (hf : Hid (s2.r.f = f)) (hy : Hid (Zq (nS v) (nZ v) (Zf 32 v) false (Zf 8 v) (Jt v) false (Zf 1 f) = y))  (H : Hid (Ex W0 w x b s tq ix pg l (n + 1))) :
  CX 52 #[.pointer (some ⟨x, 0, none⟩), .string ⟨#[73, 78]⟩, .string ⟨#[40, 67, 41]⟩, .string ⟨#[]⟩] w (.int .i64 12) fun w' => Hid (Ex W0 w' x b (s2.setF y) tq ix pg l n) := by
 have z8 : z < 65536 := by have h := H.out.fits; have := h.b; have := h.c; have := hz.out; omega
 have hq : Hid (wMove z 1 = q) := Zb hq0.out
 have q8 : q < 65536 := by rw [← hq0.out]; exact Zy z
 have es1 := hs1.out
 have v8 : v < 256 := by rw [← hv.out]; exact Nat.mod_lt _ (by decide)
 have f8 : f < 256 := by rw [← hf.out, ← hs2.out, ← hs1.out]; exact H.out.fits.f
 have y8 : y < 256 := by rw [← hy.out]; exact Zm _ _ _ _ _ _ _ _
 have f1 := hf.out
 obtain ⟨S, hS⟩ : ∃ b, nS v = b := ⟨_, rfl⟩
 obtain ⟨Z, hZ⟩ : ∃ b, nZ v = b := ⟨_, rfl⟩
 obtain ⟨Y, hY⟩ : ∃ b, Zf 32 v = b := ⟨_, rfl⟩
 obtain ⟨X8, hX8⟩ : ∃ b, Zf 8 v = b := ⟨_, rfl⟩
 obtain ⟨C, hC⟩ : ∃ b, Zf 1 f = b := ⟨_, rfl⟩
 obtain ⟨P, hP⟩ : ∃ b, Jt v = b := ⟨_, rfl⟩
 have hsh := Zb (fun w => Z3 v S Z Y X8 v8 (Zb ⟨hS, hZ, hY, hX8⟩) w)
 have hpa := Zb (fun w => JF v P v8 (Zb hP) w)
 have hby := Zb (fun w => Zs S Z Y false X8 P false C y (Zb (by rw [← hS, ← hZ, ← hY, ← hX8, ← hC, ← hP]; exact hy.out)) w)
 have eC : ((f : Int) % 2 == 1) = C := by
  exact k46
 clear hS hZ hY hX8 hC hP
 go_enter Tryz.func52, Tryz.ntmps52
 go_upto_region 12 with (first | refine a1 ?_ | (refine a2 ?_; clear H; intro w' H) | (go_at_call 22; (with_reducible refine (Yq nmBC z hz H).mono ?_); clear H; rintro e w' ⟨rfl, H⟩) | (go_at_call 35; (with_reducible refine (Z6 z q z8 hq _).mono ?_); rintro e w' ⟨rfl, rfl⟩) | fail)
 rw [es1] at H
 go_upto_region 19 with (first | refine a1 ?_ | (go_at_call 103; (with_reducible refine (ZlN z v s2 z8 hv hs2 H).mono ?_); clear H; rintro e w' ⟨rfl, _, H⟩) | fail)
 obtain ⟨HF, HG, X, HX, HM⟩ := H.out.hid
 clear H
 go_upto_region 22 with (first | refine b16 ?_ | (refine b7 ?_; clear HM; intro w' g' HM) | (refine a12 ?_; clear HM; intro w' HM) | (go_at_call 85; (with_reducible refine (hsh.out _).mono ?_); rintro e w' ⟨rfl, hb⟩; replace HM := Zb (HM.out.call hb); clear hb) | (go_at_call 104; (with_reducible refine (hpa.out _).mono ?_); rintro e w' ⟨rfl, rfl⟩))
 go_upto_region 23 with (first | (refine b7 ?_; clear HM; intro w' g' HM) | refine b8 ?_ | (refine a12 ?_; clear HM; intro w' HM) | (go_at_call 86; (with_reducible refine (hby.out _).mono ?_); rintro e w' ⟨rfl, hb⟩; replace HM := Zb (HM.out.call hb); clear hb) | ((with_reducible apply Ye HM); exact rfl; exact rfl; exact rfl; exact .s .z; exact Zkd; exact .s .z; exact oneU8.size; exact rfl; exact rfl; (rw [xc_length]; decide); exact rfl; clear HM; intro w' HM))
 have hf' : (s2.setF y).r.Fits := { HF.out with f := y8 }
 have H := Zb (Ex.made (n := n) HM.out.forget HG.out HX.out hf')
 clear HM HF HG HX
 go_wp2
 go_ret
 exact ⟨rfl, H⟩
theorem xrrd (z q : Nat) (hz : Hid (s.r.h * 256 + s.r.l = z)) (hq0 : Hid (up1 z = q)) (s1 : Cs) (hs1 : Hid (s.setWZ q = s1)) (v : Nat) (s2 : Cs) (hv : Hid (s1.m z = v)) (hs2 : Hid (s1.rd z = s2)) (a f : Nat) (ha : Hid (s1.r.a = a)) (hf : Hid (s1.r.f = f)) (p g y : Nat) (hp : Hid (Uv false a v = p)) (hg : Hid (Wf false a v = g)) (hy : Hid (Wg false a v f = y)) (s3 : Cs) (hs3 : Hid (s2.wr z g = s3)) (H : Hid (Ex W0 w x b s tq ix pg l (n + 2))) :
  CX 54 #[.pointer (some ⟨x, 0, none⟩), .string ⟨#[82, 82, 68]⟩, .string ⟨#[]⟩] w (.int .i64 18) fun w' => Hid (Ex W0 w' x b ((s3.setA p).setF y) z ix pg l n) := by
 have z8 : z < 65536 := by have h := H.out.fits; have := h.h; have := h.l; have := hz.out; omega
 have hq : Hid (wMove z 1 = q) := Zb hq0.out
 have q8 : q < 65536 := by rw [← hq0.out]; exact Zy z
 have v8 : v < 256 := by rw [← hv.out, ← hs1.out]; exact Ex.m8 H _
 have a8 : a < 256 := by rw [← ha.out, ← hs1.out]; exact H.out.fits.a
 have f8 : f < 256 := by rw [← hf.out, ← hs1.out]; exact H.out.fits.f
 have p8 : p < 256 := by rw [← hp.out]; exact Jv _ _ _ a8 v8
 have g8 : g < 256 := by rw [← hg.out]; exact K5 _ _ _ a8 v8
 have y8 : y < 256 := by rw [← hy.out]; exact Zm _ _ _ _ _ _ _ _
 have es1 := hs1.out
 have ha0 := ha.out
 have hf0 := hf.out
 have ha1 : s2.r.a = a := by rw [← ha.out, ← hs2.out]
 have hf1 : s2.r.f = f := by rw [← hf.out, ← hs2.out]
 go_enter Tryz.func54, Tryz.ntmps54
 go_upto_region 14 with (first | refine a1 ?_ | (refine a2 ?_; clear H; intro w' H) | (go_at_call 22; (with_reducible refine (Yq nmHL z hz H).mono ?_); clear H; rintro e w' ⟨rfl, H⟩) | (go_at_call 35; (with_reducible refine (Z6 z q z8 hq _).mono ?_); rintro e w' ⟨rfl, rfl⟩) | fail)
 rw [es1] at H
 have H := Zb H.out.drew
 have c0 := Ex.cell H 0 _ rfl
 have c1 := Ex.cell H 1 _ rfl
 have c29 := Ex.cell H 29 _ rfl
 have c30 := Ex.cell H 30 _ rfl
 rw [show s1.r.a = a from ha0] at c0
 rw [show s1.r.f = f from hf0] at c1
 go_region_held3 (fun w' => w'.cell? ⟨x, 0, none⟩ = some (.int .u8 (a : Int)) ∧ w'.cell? ⟨x, 1, none⟩ = some (.int .u8 (f : Int)) ∧ w'.cell? ⟨x, 29, none⟩ = some (.pointer (some ⟨b, 0, none⟩)) ∧ w'.cell? ⟨x, 30, none⟩ = some (.int .u16 (z : Int))) (first | assumption | (simp only [*]; trivial) | simp [*]) (first | (go_at_call 36; (with_reducible refine (VV z v s2 z8 hv hs2 H).mono ?_); clear H; rintro e w' ⟨rfl, _, H⟩; have d0 : w'.cell? ⟨x, 0, none⟩ = some (.int .u8 (a : Int)) := (by have hh := Ex.cell H 0 _ rfl; rw [show s2.r.a = _ from ha1] at hh; exact hh); have d1 : w'.cell? ⟨x, 1, none⟩ = some (.int .u8 (f : Int)) := (by have hh := Ex.cell H 1 _ rfl; rw [show s2.r.f = _ from hf1] at hh; exact hh); have d29 := Ex.cell H 29 _ rfl; have d30 := Ex.cell H 30 _ rfl) | (go_at_call 109; (with_reducible refine (Ud false a v f p g y a8 v8 f8 hp hg hy _).mono ?_); rintro e w' ⟨rfl, hb⟩; replace H := Zb (H.out.call hb); clear hb; have k0 : w'.cell? ⟨x, 0, none⟩ = some (.int .u8 (a : Int)) := (by have hh := Ex.cell H 0 _ rfl; rw [show s2.r.a = _ from ha1] at hh; exact hh); have k1 : w'.cell? ⟨x, 1, none⟩ = some (.int .u8 (f : Int)) := (by have hh := Ex.cell H 1 _ rfl; rw [show s2.r.f = _ from hf1] at hh; exact hh); have k29 := Ex.cell H 29 _ rfl; have k30 := Ex.cell H 30 _ rfl))
 go_upto_region 15 with (first | fail)
 obtain ⟨HF, HG, X, HX, HM⟩ := H.out.hid
 (refine Zk 9 HM (by kernel_rfl) (by kernel_rfl) (by kernel_rfl) ?_; simp only [List.take_succ_cons, List.take_zero, List.drop_succ_cons, List.drop_zero]; (try simp only [Act.put, Ze, Zc, Zd]); repeat ((fail_if_success (with_reducible refine wpQuiet_nil ?_)); first | go_big_quiet_skip | (go_big_quiet_want; first | (refine a17 ?_; go_big_quiet_op; go_big_quiet_on) | (refine a18 ?_; go_big_quiet_op; go_big_quiet_on) | (go_big_quiet_op; go_big_quiet_on) | (go_big_quiet_op; refine ⟨_, fun _ _ => rfl, ?_⟩; go_big_quiet_on))))
 refine wpQuiet_nil ?_
 intro w' HM'
 clear H
 have H := Zb (Ex.made HM'.out HG.out HX.out HF.out)
 clear HM HM' HF HG HX
 go_wp2_with (first | refine a1 ?_ | (refine a2 ?_; clear H; intro w' H) | (go_at_call 59; (with_reducible refine (JJ z g s3 z8 g8 hs3 H).mono ?_); clear H; rintro e w' ⟨rfl, H⟩) | fail)
 go_ret
 exact ⟨rfl, H⟩
theorem xrld (z q : Nat) (hz : Hid (s.r.h * 256 + s.r.l = z)) (hq0 : Hid (up1 z = q)) (s1 : Cs) (hs1 : Hid (s.setWZ q = s1)) (v : Nat) (s2 : Cs) (hv : Hid (s1.m z = v)) (hs2 : Hid (s1.rd z = s2)) (a f : Nat) (ha : Hid (s1.r.a = a)) (hf : Hid (s1.r.f = f)) (p g y : Nat) (hp : Hid (Uv true a v = p)) (hg : Hid (Wf true a v = g)) (hy : Hid (Wg true a v f = y)) (s3 : Cs) (hs3 : Hid (s2.wr z g = s3)) (H : Hid (Ex W0 w x b s tq ix pg l (n + 2))) :
  CX 54 #[.pointer (some ⟨x, 0, none⟩), .string ⟨#[82, 76, 68]⟩, .string ⟨#[]⟩] w (.int .i64 18) fun w' => Hid (Ex W0 w' x b ((s3.setA p).setF y) z ix pg l n) := by
 have z8 : z < 65536 := by have h := H.out.fits; have := h.h; have := h.l; have := hz.out; omega
 have hq : Hid (wMove z 1 = q) := Zb hq0.out
 have q8 : q < 65536 := by rw [← hq0.out]; exact Zy z
 have v8 : v < 256 := by rw [← hv.out, ← hs1.out]; exact Ex.m8 H _
 have a8 : a < 256 := by rw [← ha.out, ← hs1.out]; exact H.out.fits.a
 have f8 : f < 256 := by rw [← hf.out, ← hs1.out]; exact H.out.fits.f
 have p8 : p < 256 := by rw [← hp.out]; exact Jv _ _ _ a8 v8
 have g8 : g < 256 := by rw [← hg.out]; exact K5 _ _ _ a8 v8
 have y8 : y < 256 := by rw [← hy.out]; exact Zm _ _ _ _ _ _ _ _
 have es1 := hs1.out
 have ha0 := ha.out
 have hf0 := hf.out
 have ha1 : s2.r.a = a := by rw [← ha.out, ← hs2.out]
 have hf1 : s2.r.f = f := by rw [← hf.out, ← hs2.out]
 go_enter Tryz.func54, Tryz.ntmps54
 go_upto_region 14 with (first | refine a1 ?_ | (refine a2 ?_; clear H; intro w' H) | (go_at_call 22; (with_reducible refine (Yq nmHL z hz H).mono ?_); clear H; rintro e w' ⟨rfl, H⟩) | (go_at_call 35; (with_reducible refine (Z6 z q z8 hq _).mono ?_); rintro e w' ⟨rfl, rfl⟩) | fail)
 rw [es1] at H
 have H := Zb H.out.drew
 have c0 := Ex.cell H 0 _ rfl
 have c1 := Ex.cell H 1 _ rfl
 have c29 := Ex.cell H 29 _ rfl
 have c30 := Ex.cell H 30 _ rfl
 rw [show s1.r.a = a from ha0] at c0
 rw [show s1.r.f = f from hf0] at c1
 go_region_held3 (fun w' => w'.cell? ⟨x, 0, none⟩ = some (.int .u8 (a : Int)) ∧ w'.cell? ⟨x, 1, none⟩ = some (.int .u8 (f : Int)) ∧ w'.cell? ⟨x, 29, none⟩ = some (.pointer (some ⟨b, 0, none⟩)) ∧ w'.cell? ⟨x, 30, none⟩ = some (.int .u16 (z : Int))) (first | assumption | (simp only [*]; trivial) | simp [*]) (first | (go_at_call 36; (with_reducible refine (VV z v s2 z8 hv hs2 H).mono ?_); clear H; rintro e w' ⟨rfl, _, H⟩; have d0 : w'.cell? ⟨x, 0, none⟩ = some (.int .u8 (a : Int)) := (by have hh := Ex.cell H 0 _ rfl; rw [show s2.r.a = _ from ha1] at hh; exact hh); have d1 : w'.cell? ⟨x, 1, none⟩ = some (.int .u8 (f : Int)) := (by have hh := Ex.cell H 1 _ rfl; rw [show s2.r.f = _ from hf1] at hh; exact hh); have d29 := Ex.cell H 29 _ rfl; have d30 := Ex.cell H 30 _ rfl) | (go_at_call 109; (with_reducible refine (Ud true a v f p g y a8 v8 f8 hp hg hy _).mono ?_); rintro e w' ⟨rfl, hb⟩; replace H := Zb (H.out.call hb); clear hb; have k0 : w'.cell? ⟨x, 0, none⟩ = some (.int .u8 (a : Int)) := (by have hh := Ex.cell H 0 _ rfl; rw [show s2.r.a = _ from ha1] at hh; exact hh); have k1 : w'.cell? ⟨x, 1, none⟩ = some (.int .u8 (f : Int)) := (by have hh := Ex.cell H 1 _ rfl; rw [show s2.r.f = _ from hf1] at hh; exact hh); have k29 := Ex.cell H 29 _ rfl; have k30 := Ex.cell H 30 _ rfl))
 go_upto_region 15 with (first | fail)
 obtain ⟨HF, HG, X, HX, HM⟩ := H.out.hid
 (refine Zk 9 HM (by kernel_rfl) (by kernel_rfl) (by kernel_rfl) ?_; simp only [List.take_succ_cons, List.take_zero, List.drop_succ_cons, List.drop_zero]; (try simp only [Act.put, Ze, Zc, Zd]); repeat ((fail_if_success (with_reducible refine wpQuiet_nil ?_)); first | go_big_quiet_skip | (go_big_quiet_want; first | (refine a17 ?_; go_big_quiet_op; go_big_quiet_on) | (refine a18 ?_; go_big_quiet_op; go_big_quiet_on) | (go_big_quiet_op; go_big_quiet_on) | (go_big_quiet_op; refine ⟨_, fun _ _ => rfl, ?_⟩; go_big_quiet_on))))
 refine wpQuiet_nil ?_
 intro w' HM'
 clear H
 have H := Zb (Ex.made HM'.out HG.out HX.out HF.out)
 clear HM HM' HF HG HX
 go_wp2_with (first | refine a1 ?_ | (refine a2 ?_; clear H; intro w' H) | (go_at_call 59; (with_reducible refine (JJ z g s3 z8 g8 hs3 H).mono ?_); clear H; rintro e w' ⟨rfl, H⟩) | fail)
 go_ret
 exact ⟨rfl, H⟩
end
end Go.Proofs.YtgdeeiimkhjfiaaGreatDoor
set_option linter.unusedSimpArgs false
set_option linter.unusedVariables false
namespace Go.Proofs.YtgdeeiimkhjfiaaGreatDoor
open Go.RowKit
section
variable {W0 w : World} {x b tq n c : Nat} {s : Cs} {ix : Bool} {pg : Int} {l : Zj}
theorem jQ {v : Value} {R : List (Nat × TypeId × List Value)} {L : List Tx} (hL : L ≠ []) (HR : Y0 9 R v (jF L)) (HM : Own W0 w R) :
  ∃ g cap cur, v = .slice (some ⟨g, 0, none⟩) L.length cap ∧ L.length ≤ cap ∧ W0.heap.size ≤ g ∧ ZL w g 9 cur ∧ ∀ k, k < L.length → cur[k]? = some (.string ⟨(sg L k).toArray⟩) := by
 rcases HR with ⟨-, -, hx⟩ | ⟨g, cap, cur, rfl, rfl, h1, h2, h3, h4⟩
 ·exact absurd (by simpa [jF] using hx) hL
 ·have hw := HM.whole (g, 9, cur) (by simp)
  refine ⟨g, cap, cur, by rw [strs_length], by rw [← strs_length L]; assumption, hw.1, hw.2, fun k hk => ?_⟩
  have e := yP L k hk
  rw [← h4, List.getElem?_take] at e
  split at e
  ·exact e
  ·cases e
theorem ZJ (s : Tx) (m : UInt8) (M : Int) (hM : (m.toNat : Int) = M) (hs : s.length ≤ 2000) (w : World) : Calls Tryz.prog 44 #[.string ⟨s.toArray⟩, .int .u8 M] w fun e w' => ∃ g cap cur, e = .returned (.slice (some ⟨g, 0, none⟩) (Zl s m).length cap) ∧ (Zl s m).length ≤ cap ∧ w.heap.size ≤ g ∧ ZL w' g 9 cur ∧ (∀ k, k < (Zl s m).length → cur[k]? = some (.string ⟨(sg (Zl s m) k).toArray⟩)) ∧ Below w.heap.size w w' := by
 have hM : Hid ((m.toNat : Int) = M) := hM
 obtain ⟨i0, hi, hz0, hz1, hz2⟩ := str_parts
 have HI := Zb hi
 have HZ0 := Zb hz0
 have HZ1 := Zb hz1
 have HZ2 := Zb hz2
 clear hi hz0 hz1 hz2
 have HM := Zb (Own.start w)
 have tg1 : Hid True := trivial
 go_enter Tryz.func44, Tryz.ntmps44
 go_wp2_with (first | ((with_reducible apply Yc (cs := []) (e := 9) (n := 0) HM); exact rfl; exact ZgG; (focus (go_simp; done)); exact rfl; clear tg1; intro w' g1 HM'; clear HM; have HM := HM'; clear HM'))
 have HR : Hid (Y0 9 [(g1, 9, [])] (.slice (some ⟨g1, 0, none⟩) 0 0) (jF [])) := Y0.made
 go_loopw [5, 6, 7] (fun o pt i wr => ∃ (k : Nat) (p : Tx) (D : List Tx) (R : List (Nat × TypeId × List Value)) (v : Value), k ≤ s.length ∧ p.length ≤ k ∧ i = .int .i64 k ∧ pt = .string ⟨p.toArray⟩ ∧ o = v ∧ Hid (D.length ≤ k) ∧ Hid (D ++ Yg m p (s.drop k) = Zl s m) ∧ Hid (Y0 9 R v (jF D)) ∧ Hid (Own w wr R)) (fun _ _ i _ => s.length - (intOf i).toNat)
 case atStart => exact ⟨0, [], [], _, _, by omega, by simp, rfl, rfl, rfl, by show _ ≤ _; simp, rfl, HR, HM⟩
 case round =>
  clear HM HR
  obtain ⟨k, p, D, R, v, hk, lp, rfl, rfl, rfl, HDL, HP, HR, HM⟩ := hrel
  have tg1 : Hid True := trivial
  by_cases hlt : k < s.length
  ·have hlt' : (k : Int) < (s.length : Int) := by omega
   exact k3
  ·obtain rfl : k = s.length := by omega
   have HH : Hid (D ++ [p] = Zl s m) := by
    show _ = _
    rw [← HP.out, List.drop_length]; rfl
   go_wp2_with (first | (refine a50 ?_; clear tg1; intro w' g1 HM'; clear HM; have HM := HM'; clear HM') | ((refine jA Tryz.underlying80 HI.out HZ0.out HZ1.out HZ2.out rfl (by decide) HM HR (List.sublist_cons_self _ _) rfl rfl rfl (Rd.ofWhole (HM.out.at_ .z) rfl) (by intro u hu; obtain rfl := List.mem_singleton.1 hu; rfl) (by have h := HDL.out; rw [strs_length]; simp only [List.length_cons, List.length_nil]; omega) rfl ?_); intro v' w' R' HR' HM'; clear HM HR; have HM := HM'; have HR := HR'; clear HM' HR'))
   go_ret
   have h := HR.out
   obtain ⟨g, cap, cur, hv, hcap, hg, hW, hc⟩ := jQ (L := D ++ [p]) (by simp) (by simpa [jF] using h) HM.out
   rw [← HH.out]
   exact ⟨g, cap, cur, congrArg Ending.returned hv, hcap, hg, hW, hc, Own.fin HM⟩
end
end Go.Proofs.YtgdeeiimkhjfiaaGreatDoor
