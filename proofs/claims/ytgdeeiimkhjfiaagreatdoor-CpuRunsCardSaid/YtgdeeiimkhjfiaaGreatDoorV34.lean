import Derived.Test.YtgdeeiimkhjfiaaGreatDoorV33
set_option maxRecDepth 100000
set_option maxHeartbeats 6400000
namespace Go.Proofs.YtgdeeiimkhjfiaaGreatDoor
open Go.RowKit
section
variable {W0 w : World} {x b tq n c : Nat} {s : Cs} {ix : Bool} {pg : Int} {l : Zj}
theorem ZfA (a f : Nat) (ha : Hid (s.r.a = a)) (hf : Hid (s.r.f = f)) (p y : Nat) (hp : Hid (tV 0 a (f % 2) = p)) (hy : Hid (Yj 0 a (f % 2) f = y)) (H : Hid (Ex W0 w x b s tq ix pg l n)) :
  CX 55 #[.pointer (some ⟨x, 0, none⟩), .string ⟨#[82, 76, 67, 65]⟩] w (.int .i64 4) fun w' => Hid (Ex W0 w' x b ((s.setA p).setF y) tq ix pg l n) := by
 have a8 : a < 256 := by rw [← ha.out]; exact H.out.fits.a
 have f8 : f < 256 := by rw [← hf.out]; exact H.out.fits.f
 have ha0 := ha.out
 have hf0 := hf.out
 obtain ⟨c, hc⟩ : ∃ x, Hid (f % 2 = x) := ⟨_, rfl⟩
 have hp2 : Hid (tV 0 a c = p) := Zb (by rw [← hc.out]; exact hp.out)
 have hy2 : Hid (Yj 0 a c f = y) := Zb (by rw [← hc.out]; exact hy.out)
 obtain ⟨g, hg⟩ : ∃ g, Hid (Yl 0 a c = g) := ⟨_, rfl⟩
 have p8 : p < 256 := by rw [← hp.out]; exact JL _ _ _ a8 (by omega)
 have y8 : y < 256 := by rw [← hy.out]; exact Y5 _ _ _ _
 go_enter Tryz.func55, Tryz.ntmps55
 go_upto_region 1 with (first | fail)
 obtain ⟨HF, HG, X, HX, HM⟩ := H.out.hid
 (refine Zo HM (by kernel_rfl) (by kernel_rfl) ?_; (try simp only [Act.put, Ze, Zc, Zd]); repeat ((fail_if_success (with_reducible refine wpQuiet_nil ?_)); first | go_big_quiet_skip | (go_big_quiet_want; first | (refine a17 ?_; go_big_quiet_op; go_big_quiet_on) | (refine a18 ?_; go_big_quiet_op; go_big_quiet_on) | (go_big_quiet_op; go_big_quiet_on) | (go_big_quiet_op; refine ⟨_, fun _ _ => rfl, ?_⟩; go_big_quiet_on))))
 refine wpQuiet_nil ?_
 intro w' HM'
 clear H
 have H := Zb (Ex.made HM'.out HG.out HX.out HF.out)
 clear HM HM' HF HG HX
 go_wp2_with (first | (refine a2 ?_; clear H; intro w' H) | (go_at_call 111; (try rw [ha0]); (try rw [hf0]); (with_reducible refine (YD 0 0 a f c p y (by decide) a8 f8 hc hp2 hy2 _).mono ?_); rintro e w' ⟨rfl, hb⟩; replace H := Zb (H.out.call hb); clear hb) | (go_at_call 111; (try rw [ha0]); (try rw [hf0]); (with_reducible refine (YD 0 0 a f c p y (by decide) a8 f8 hc hp2 hy2 _).mono ?_); rintro e w' ⟨rfl, rfl⟩) | fail)
 go_ret
 exact ⟨rfl, H⟩
theorem ZfB (a f : Nat) (ha : Hid (s.r.a = a)) (hf : Hid (s.r.f = f)) (p y : Nat) (hp : Hid (tV 1 a (f % 2) = p)) (hy : Hid (Yj 1 a (f % 2) f = y)) (H : Hid (Ex W0 w x b s tq ix pg l n)) :
  CX 55 #[.pointer (some ⟨x, 0, none⟩), .string ⟨#[82, 82, 67, 65]⟩] w (.int .i64 4) fun w' => Hid (Ex W0 w' x b ((s.setA p).setF y) tq ix pg l n) := by
 have a8 : a < 256 := by rw [← ha.out]; exact H.out.fits.a
 have f8 : f < 256 := by rw [← hf.out]; exact H.out.fits.f
 have ha0 := ha.out
 have hf0 := hf.out
 obtain ⟨c, hc⟩ : ∃ x, Hid (f % 2 = x) := ⟨_, rfl⟩
 have hp2 : Hid (tV 1 a c = p) := Zb (by rw [← hc.out]; exact hp.out)
 have hy2 : Hid (Yj 1 a c f = y) := Zb (by rw [← hc.out]; exact hy.out)
 obtain ⟨g, hg⟩ : ∃ g, Hid (Yl 1 a c = g) := ⟨_, rfl⟩
 have p8 : p < 256 := by rw [← hp.out]; exact JL _ _ _ a8 (by omega)
 have y8 : y < 256 := by rw [← hy.out]; exact Y5 _ _ _ _
 go_enter Tryz.func55, Tryz.ntmps55
 go_upto_region 1 with (first | fail)
 obtain ⟨HF, HG, X, HX, HM⟩ := H.out.hid
 (refine Zo HM (by kernel_rfl) (by kernel_rfl) ?_; (try simp only [Act.put, Ze, Zc, Zd]); repeat ((fail_if_success (with_reducible refine wpQuiet_nil ?_)); first | go_big_quiet_skip | (go_big_quiet_want; first | (refine a17 ?_; go_big_quiet_op; go_big_quiet_on) | (refine a18 ?_; go_big_quiet_op; go_big_quiet_on) | (go_big_quiet_op; go_big_quiet_on) | (go_big_quiet_op; refine ⟨_, fun _ _ => rfl, ?_⟩; go_big_quiet_on))))
 refine wpQuiet_nil ?_
 intro w' HM'
 clear H
 have H := Zb (Ex.made HM'.out HG.out HX.out HF.out)
 clear HM HM' HF HG HX
 go_wp2_with (first | (refine a2 ?_; clear H; intro w' H) | (go_at_call 111; (try rw [ha0]); (try rw [hf0]); (with_reducible refine (YD 1 1 a f c p y (by decide) a8 f8 hc hp2 hy2 _).mono ?_); rintro e w' ⟨rfl, hb⟩; replace H := Zb (H.out.call hb); clear hb) | (go_at_call 111; (try rw [ha0]); (try rw [hf0]); (with_reducible refine (YD 1 1 a f c p y (by decide) a8 f8 hc hp2 hy2 _).mono ?_); rintro e w' ⟨rfl, rfl⟩) | fail)
 go_ret
 exact ⟨rfl, H⟩
theorem ZiW (a f : Nat) (ha : Hid (s.r.a = a)) (hf : Hid (s.r.f = f)) (p y : Nat) (hp : Hid (tV 2 a (f % 2) = p)) (hy : Hid (Yj 2 a (f % 2) f = y)) (H : Hid (Ex W0 w x b s tq ix pg l n)) :
  CX 55 #[.pointer (some ⟨x, 0, none⟩), .string ⟨#[82, 76, 65]⟩] w (.int .i64 4) fun w' => Hid (Ex W0 w' x b ((s.setA p).setF y) tq ix pg l n) := by
 have a8 : a < 256 := by rw [← ha.out]; exact H.out.fits.a
 have f8 : f < 256 := by rw [← hf.out]; exact H.out.fits.f
 have ha0 := ha.out
 have hf0 := hf.out
 obtain ⟨c, hc⟩ : ∃ x, Hid (f % 2 = x) := ⟨_, rfl⟩
 have hp2 : Hid (tV 2 a c = p) := Zb (by rw [← hc.out]; exact hp.out)
 have hy2 : Hid (Yj 2 a c f = y) := Zb (by rw [← hc.out]; exact hy.out)
 obtain ⟨g, hg⟩ : ∃ g, Hid (Yl 2 a c = g) := ⟨_, rfl⟩
 have p8 : p < 256 := by rw [← hp.out]; exact JL _ _ _ a8 (by omega)
 have y8 : y < 256 := by rw [← hy.out]; exact Y5 _ _ _ _
 go_enter Tryz.func55, Tryz.ntmps55
 go_upto_region 1 with (first | fail)
 obtain ⟨HF, HG, X, HX, HM⟩ := H.out.hid
 (refine Zo HM (by kernel_rfl) (by kernel_rfl) ?_; (try simp only [Act.put, Ze, Zc, Zd]); repeat ((fail_if_success (with_reducible refine wpQuiet_nil ?_)); first | go_big_quiet_skip | (go_big_quiet_want; first | (refine a17 ?_; go_big_quiet_op; go_big_quiet_on) | (refine a18 ?_; go_big_quiet_op; go_big_quiet_on) | (go_big_quiet_op; go_big_quiet_on) | (go_big_quiet_op; refine ⟨_, fun _ _ => rfl, ?_⟩; go_big_quiet_on))))
 refine wpQuiet_nil ?_
 intro w' HM'
 clear H
 have H := Zb (Ex.made HM'.out HG.out HX.out HF.out)
 clear HM HM' HF HG HX
 go_wp2_with (first | (refine a2 ?_; clear H; intro w' H) | (go_at_call 111; (try rw [ha0]); (try rw [hf0]); (with_reducible refine (YD 2 2 a f c p y (by decide) a8 f8 hc hp2 hy2 _).mono ?_); rintro e w' ⟨rfl, hb⟩; replace H := Zb (H.out.call hb); clear hb) | (go_at_call 111; (try rw [ha0]); (try rw [hf0]); (with_reducible refine (YD 2 2 a f c p y (by decide) a8 f8 hc hp2 hy2 _).mono ?_); rintro e w' ⟨rfl, rfl⟩) | fail)
 go_ret
 exact ⟨rfl, H⟩
theorem ZiX (a f : Nat) (ha : Hid (s.r.a = a)) (hf : Hid (s.r.f = f)) (p y : Nat) (hp : Hid (tV 3 a (f % 2) = p)) (hy : Hid (Yj 3 a (f % 2) f = y)) (H : Hid (Ex W0 w x b s tq ix pg l n)) :
  CX 55 #[.pointer (some ⟨x, 0, none⟩), .string ⟨#[82, 82, 65]⟩] w (.int .i64 4) fun w' => Hid (Ex W0 w' x b ((s.setA p).setF y) tq ix pg l n) := by
 have a8 : a < 256 := by rw [← ha.out]; exact H.out.fits.a
 have f8 : f < 256 := by rw [← hf.out]; exact H.out.fits.f
 have ha0 := ha.out
 have hf0 := hf.out
 obtain ⟨c, hc⟩ : ∃ x, Hid (f % 2 = x) := ⟨_, rfl⟩
 have hp2 : Hid (tV 3 a c = p) := Zb (by rw [← hc.out]; exact hp.out)
 have hy2 : Hid (Yj 3 a c f = y) := Zb (by rw [← hc.out]; exact hy.out)
 obtain ⟨g, hg⟩ : ∃ g, Hid (Yl 3 a c = g) := ⟨_, rfl⟩
 have p8 : p < 256 := by rw [← hp.out]; exact JL _ _ _ a8 (by omega)
 have y8 : y < 256 := by rw [← hy.out]; exact Y5 _ _ _ _
 go_enter Tryz.func55, Tryz.ntmps55
 go_upto_region 1 with (first | fail)
 obtain ⟨HF, HG, X, HX, HM⟩ := H.out.hid
 (refine Zo HM (by kernel_rfl) (by kernel_rfl) ?_; (try simp only [Act.put, Ze, Zc, Zd]); repeat ((fail_if_success (with_reducible refine wpQuiet_nil ?_)); first | go_big_quiet_skip | (go_big_quiet_want; first | (refine a17 ?_; go_big_quiet_op; go_big_quiet_on) | (refine a18 ?_; go_big_quiet_op; go_big_quiet_on) | (go_big_quiet_op; go_big_quiet_on) | (go_big_quiet_op; refine ⟨_, fun _ _ => rfl, ?_⟩; go_big_quiet_on))))
 refine wpQuiet_nil ?_
 intro w' HM'
 clear H
 have H := Zb (Ex.made HM'.out HG.out HX.out HF.out)
 clear HM HM' HF HG HX
 go_wp2_with (first | (refine a2 ?_; clear H; intro w' H) | (go_at_call 111; (try rw [ha0]); (try rw [hf0]); (with_reducible refine (YD 3 3 a f c p y (by decide) a8 f8 hc hp2 hy2 _).mono ?_); rintro e w' ⟨rfl, hb⟩; replace H := Zb (H.out.call hb); clear hb) | (go_at_call 111; (try rw [ha0]); (try rw [hf0]); (with_reducible refine (YD 3 3 a f c p y (by decide) a8 f8 hc hp2 hy2 _).mono ?_); rintro e w' ⟨rfl, rfl⟩) | fail)
 go_ret
 exact ⟨rfl, H⟩
theorem ZiY (a f : Nat) (ha : Hid (s.r.a = a)) (hf : Hid (s.r.f = f)) (p y : Nat) (hp : Hid (KS a f = p)) (hy : Hid (Um a f = y)) (H : Hid (Ex W0 w x b s tq ix pg l n)) :
  CX 55 #[.pointer (some ⟨x, 0, none⟩), .string ⟨#[68, 65, 65]⟩] w (.int .i64 4) fun w' => Hid (Ex W0 w' x b ((s.setA p).setF y) tq ix pg l n) := by
 have a8 : a < 256 := by rw [← ha.out]; exact H.out.fits.a
 have f8 : f < 256 := by rw [← hf.out]; exact H.out.fits.f
 have ha0 := ha.out
 have hf0 := hf.out
 have p8 : p < 256 := by rw [← hp.out]; exact Uo _ _
 have y8 : y < 256 := by rw [← hy.out]; exact j7 _ _
 go_enter Tryz.func55, Tryz.ntmps55
 go_upto_region 1 with (first | fail)
 obtain ⟨HF, HG, X, HX, HM⟩ := H.out.hid
 (refine Zo HM (by kernel_rfl) (by kernel_rfl) ?_; (try simp only [Act.put, Ze, Zc, Zd]); repeat ((fail_if_success (with_reducible refine wpQuiet_nil ?_)); first | go_big_quiet_skip | (go_big_quiet_want; first | (refine a17 ?_; go_big_quiet_op; go_big_quiet_on) | (refine a18 ?_; go_big_quiet_op; go_big_quiet_on) | (go_big_quiet_op; go_big_quiet_on) | (go_big_quiet_op; refine ⟨_, fun _ _ => rfl, ?_⟩; go_big_quiet_on))))
 refine wpQuiet_nil ?_
 intro w' HM'
 clear H
 have H := Zb (Ex.made HM'.out HG.out HX.out HF.out)
 clear HM HM' HF HG HX
 go_wp2_with (first | (refine a2 ?_; clear H; intro w' H) | (go_at_call 112; (try rw [ha0]); (try rw [hf0]); (with_reducible refine (Zdx a f p y a8 f8 hp hy _).mono ?_); rintro e w' ⟨rfl, hb⟩; replace H := Zb (H.out.call hb); clear hb) | (go_at_call 112; (try rw [ha0]); (try rw [hf0]); (with_reducible refine (Zdx a f p y a8 f8 hp hy _).mono ?_); rintro e w' ⟨rfl, rfl⟩) | fail)
 go_ret
 exact ⟨rfl, H⟩
theorem ZiZ (a f : Nat) (ha : Hid (s.r.a = a)) (hf : Hid (s.r.f = f)) (p y : Nat) (hp : Hid (KT 0 a = p)) (hy : Hid (Vk 0 a f = y)) (H : Hid (Ex W0 w x b s tq ix pg l n)) :
  CX 55 #[.pointer (some ⟨x, 0, none⟩), .string ⟨#[67, 80, 76]⟩] w (.int .i64 4) fun w' => Hid (Ex W0 w' x b ((s.setA p).setF y) tq ix pg l n) := by
 have a8 : a < 256 := by rw [← ha.out]; exact H.out.fits.a
 have f8 : f < 256 := by rw [← hf.out]; exact H.out.fits.f
 have ha0 := ha.out
 have hf0 := hf.out
 have p8 : p < 256 := by rw [← hp.out]; exact K2 _ _ a8
 have y8 : y < 256 := by rw [← hy.out]; exact K3 _ _ _ f8
 go_enter Tryz.func55, Tryz.ntmps55
 go_upto_region 1 with (first | fail)
 obtain ⟨HF, HG, X, HX, HM⟩ := H.out.hid
 (refine Zo HM (by kernel_rfl) (by kernel_rfl) ?_; (try simp only [Act.put, Ze, Zc, Zd]); repeat ((fail_if_success (with_reducible refine wpQuiet_nil ?_)); first | go_big_quiet_skip | (go_big_quiet_want; first | (refine a17 ?_; go_big_quiet_op; go_big_quiet_on) | (refine a18 ?_; go_big_quiet_op; go_big_quiet_on) | (go_big_quiet_op; go_big_quiet_on) | (go_big_quiet_op; refine ⟨_, fun _ _ => rfl, ?_⟩; go_big_quiet_on))))
 refine wpQuiet_nil ?_
 intro w' HM'
 clear H
 have H := Zb (Ex.made HM'.out HG.out HX.out HF.out)
 clear HM HM' HF HG HX
 go_wp2_with (first | (refine a2 ?_; clear H; intro w' H) | (go_at_call 113; (try rw [ha0]); (try rw [hf0]); (with_reducible refine (JG 0 a f p y a8 f8 hp hy _).mono ?_); rintro e w' ⟨rfl, hb⟩; replace H := Zb (H.out.call hb); clear hb) | (go_at_call 113; (try rw [ha0]); (try rw [hf0]); (with_reducible refine (JG 0 a f p y a8 f8 hp hy _).mono ?_); rintro e w' ⟨rfl, rfl⟩) | fail)
 go_ret
 exact ⟨rfl, H⟩
theorem Zi0 (a f : Nat) (ha : Hid (s.r.a = a)) (hf : Hid (s.r.f = f)) (p y : Nat) (hp : Hid (KT 1 a = p)) (hy : Hid (Vk 1 a f = y)) (H : Hid (Ex W0 w x b s tq ix pg l n)) :
  CX 55 #[.pointer (some ⟨x, 0, none⟩), .string ⟨#[83, 67, 70]⟩] w (.int .i64 4) fun w' => Hid (Ex W0 w' x b ((s.setA p).setF y) tq ix pg l n) := by
 have a8 : a < 256 := by rw [← ha.out]; exact H.out.fits.a
 have f8 : f < 256 := by rw [← hf.out]; exact H.out.fits.f
 have ha0 := ha.out
 have hf0 := hf.out
 have p8 : p < 256 := by rw [← hp.out]; exact K2 _ _ a8
 have y8 : y < 256 := by rw [← hy.out]; exact K3 _ _ _ f8
 go_enter Tryz.func55, Tryz.ntmps55
 go_upto_region 1 with (first | fail)
 obtain ⟨HF, HG, X, HX, HM⟩ := H.out.hid
 (refine Zo HM (by kernel_rfl) (by kernel_rfl) ?_; (try simp only [Act.put, Ze, Zc, Zd]); repeat ((fail_if_success (with_reducible refine wpQuiet_nil ?_)); first | go_big_quiet_skip | (go_big_quiet_want; first | (refine a17 ?_; go_big_quiet_op; go_big_quiet_on) | (refine a18 ?_; go_big_quiet_op; go_big_quiet_on) | (go_big_quiet_op; go_big_quiet_on) | (go_big_quiet_op; refine ⟨_, fun _ _ => rfl, ?_⟩; go_big_quiet_on))))
 refine wpQuiet_nil ?_
 intro w' HM'
 clear H
 have H := Zb (Ex.made HM'.out HG.out HX.out HF.out)
 clear HM HM' HF HG HX
 go_wp2_with (first | (refine a2 ?_; clear H; intro w' H) | (go_at_call 113; (try rw [ha0]); (try rw [hf0]); (with_reducible refine (JG 1 a f p y a8 f8 hp hy _).mono ?_); rintro e w' ⟨rfl, hb⟩; replace H := Zb (H.out.call hb); clear hb) | (go_at_call 113; (try rw [ha0]); (try rw [hf0]); (with_reducible refine (JG 1 a f p y a8 f8 hp hy _).mono ?_); rintro e w' ⟨rfl, rfl⟩) | fail)
 go_ret
 exact ⟨rfl, H⟩
theorem Zi1 (a f : Nat) (ha : Hid (s.r.a = a)) (hf : Hid (s.r.f = f)) (p y : Nat) (hp : Hid (KT 2 a = p)) (hy : Hid (Vk 2 a f = y)) (H : Hid (Ex W0 w x b s tq ix pg l n)) :
  CX 55 #[.pointer (some ⟨x, 0, none⟩), .string ⟨#[67, 67, 70]⟩] w (.int .i64 4) fun w' => Hid (Ex W0 w' x b ((s.setA p).setF y) tq ix pg l n) := by
 have a8 : a < 256 := by rw [← ha.out]; exact H.out.fits.a
 have f8 : f < 256 := by rw [← hf.out]; exact H.out.fits.f
 have ha0 := ha.out
 have hf0 := hf.out
 have p8 : p < 256 := by rw [← hp.out]; exact K2 _ _ a8
 have y8 : y < 256 := by rw [← hy.out]; exact K3 _ _ _ f8
 go_enter Tryz.func55, Tryz.ntmps55
 go_upto_region 1 with (first | fail)
 obtain ⟨HF, HG, X, HX, HM⟩ := H.out.hid
 (refine Zo HM (by kernel_rfl) (by kernel_rfl) ?_; (try simp only [Act.put, Ze, Zc, Zd]); repeat ((fail_if_success (with_reducible refine wpQuiet_nil ?_)); first | go_big_quiet_skip | (go_big_quiet_want; first | (refine a17 ?_; go_big_quiet_op; go_big_quiet_on) | (refine a18 ?_; go_big_quiet_op; go_big_quiet_on) | (go_big_quiet_op; go_big_quiet_on) | (go_big_quiet_op; refine ⟨_, fun _ _ => rfl, ?_⟩; go_big_quiet_on))))
 refine wpQuiet_nil ?_
 intro w' HM'
 clear H
 have H := Zb (Ex.made HM'.out HG.out HX.out HF.out)
 clear HM HM' HF HG HX
 go_wp2_with (first | (refine a2 ?_; clear H; intro w' H) | (go_at_call 113; (try rw [ha0]); (try rw [hf0]); (with_reducible refine (JG 2 a f p y a8 f8 hp hy _).mono ?_); rintro e w' ⟨rfl, hb⟩; replace H := Zb (H.out.call hb); clear hb) | (go_at_call 113; (try rw [ha0]); (try rw [hf0]); (with_reducible refine (JG 2 a f p y a8 f8 hp hy _).mono ?_); rintro e w' ⟨rfl, rfl⟩) | fail)
 go_ret
 exact ⟨rfl, H⟩
theorem Zi2 (a f : Nat) (ha : Hid (s.r.a = a)) (hf : Hid (s.r.f = f))  (H : Hid (Ex W0 w x b s tq ix pg l n)) :
  CX 55 #[.pointer (some ⟨x, 0, none⟩), .string ⟨#[78, 79, 80]⟩] w (.int .i64 4) fun w' => Hid (Ex W0 w' x b ((s.setA a).setF f) tq ix pg l n) := by
 have a8 : a < 256 := by rw [← ha.out]; exact H.out.fits.a
 have f8 : f < 256 := by rw [← hf.out]; exact H.out.fits.f
 have ha0 := ha.out
 have hf0 := hf.out
 go_enter Tryz.func55, Tryz.ntmps55
 go_upto_region 1 with (first | fail)
 obtain ⟨HF, HG, X, HX, HM⟩ := H.out.hid
 (refine Zo HM (by kernel_rfl) (by kernel_rfl) ?_; (try simp only [Act.put, Ze, Zc, Zd]); repeat ((fail_if_success (with_reducible refine wpQuiet_nil ?_)); first | go_big_quiet_skip | (go_big_quiet_want; first | (refine a17 ?_; go_big_quiet_op; go_big_quiet_on) | (refine a18 ?_; go_big_quiet_op; go_big_quiet_on) | (go_big_quiet_op; go_big_quiet_on) | (go_big_quiet_op; refine ⟨_, fun _ _ => rfl, ?_⟩; go_big_quiet_on))))
 refine wpQuiet_nil ?_
 intro w' HM'
 clear H
 have H := Zb (Ex.made HM'.out HG.out HX.out HF.out)
 clear HM HM' HF HG HX
 go_wp2_with (first | (refine a2 ?_; clear H; intro w' H) | fail)
 go_ret
 rw [← ha.out, ← hf.out]
 exact ⟨rfl, H⟩
theorem ZfC (a f : Nat) (ha : Hid (s.r.a = a)) (hf : Hid (s.r.f = f))  (H : Hid (Ex W0 w x b s tq ix pg l n)) :
  CX 55 #[.pointer (some ⟨x, 0, none⟩), .string ⟨#[72, 65, 76, 84]⟩] w (.int .i64 4) fun w' => Hid (Ex W0 w' x b (((s.setHT true).setA a).setF f) tq ix pg l n) := by
 have a8 : a < 256 := by rw [← ha.out]; exact H.out.fits.a
 have f8 : f < 256 := by rw [← hf.out]; exact H.out.fits.f
 have ha0 := ha.out
 have hf0 := hf.out
 go_enter Tryz.func55, Tryz.ntmps55
 go_upto_region 1 with (first | fail)
 obtain ⟨HF, HG, X, HX, HM⟩ := H.out.hid
 (refine Zo HM (by kernel_rfl) (by kernel_rfl) ?_; (try simp only [Act.put, Ze, Zc, Zd]); repeat ((fail_if_success (with_reducible refine wpQuiet_nil ?_)); first | go_big_quiet_skip | (go_big_quiet_want; first | (refine a17 ?_; go_big_quiet_op; go_big_quiet_on) | (refine a18 ?_; go_big_quiet_op; go_big_quiet_on) | (go_big_quiet_op; go_big_quiet_on) | (go_big_quiet_op; refine ⟨_, fun _ _ => rfl, ?_⟩; go_big_quiet_on))))
 refine wpQuiet_nil ?_
 intro w' HM'
 clear H
 have H := Zb (Ex.made HM'.out HG.out HX.out HF.out)
 clear HM HM' HF HG HX
 go_wp2_with (first | (refine a2 ?_; clear H; intro w' H) | fail)
 go_ret
 rw [← ha.out, ← hf.out]
 exact ⟨rfl, H⟩
theorem ZlC (a f : Nat) (ha : Hid (s.r.a = a)) (hf : Hid (s.r.f = f))  (H : Hid (Ex W0 w x b s tq ix pg l n)) :
  CX 55 #[.pointer (some ⟨x, 0, none⟩), .string ⟨#[68, 73]⟩] w (.int .i64 4) fun w' => Hid (Ex W0 w' x b (((((s.setQ1 false).setQ2 false).setDL false).setA a).setF f) tq ix pg l n) := by
 have a8 : a < 256 := by rw [← ha.out]; exact H.out.fits.a
 have f8 : f < 256 := by rw [← hf.out]; exact H.out.fits.f
 have ha0 := ha.out
 have hf0 := hf.out
 go_enter Tryz.func55, Tryz.ntmps55
 go_upto_region 1 with (first | fail)
 obtain ⟨HF, HG, X, HX, HM⟩ := H.out.hid
 (refine Zo HM (by kernel_rfl) (by kernel_rfl) ?_; (try simp only [Act.put, Ze, Zc, Zd]); repeat ((fail_if_success (with_reducible refine wpQuiet_nil ?_)); first | go_big_quiet_skip | (go_big_quiet_want; first | (refine a17 ?_; go_big_quiet_op; go_big_quiet_on) | (refine a18 ?_; go_big_quiet_op; go_big_quiet_on) | (go_big_quiet_op; go_big_quiet_on) | (go_big_quiet_op; refine ⟨_, fun _ _ => rfl, ?_⟩; go_big_quiet_on))))
 refine wpQuiet_nil ?_
 intro w' HM'
 clear H
 have H := Zb (Ex.made HM'.out HG.out HX.out HF.out)
 clear HM HM' HF HG HX
 go_wp2_with (first | (refine a2 ?_; clear H; intro w' H) | fail)
 go_ret
 rw [← ha.out, ← hf.out]
 exact ⟨rfl, H⟩
theorem ZlD (a f : Nat) (ha : Hid (s.r.a = a)) (hf : Hid (s.r.f = f))  (H : Hid (Ex W0 w x b s tq ix pg l n)) :
  CX 55 #[.pointer (some ⟨x, 0, none⟩), .string ⟨#[69, 73]⟩] w (.int .i64 4) fun w' => Hid (Ex W0 w' x b (((((s.setQ1 true).setQ2 true).setDL true).setA a).setF f) tq ix pg l n) := by
 have a8 : a < 256 := by rw [← ha.out]; exact H.out.fits.a
 have f8 : f < 256 := by rw [← hf.out]; exact H.out.fits.f
 have ha0 := ha.out
 have hf0 := hf.out
 go_enter Tryz.func55, Tryz.ntmps55
 go_upto_region 1 with (first | fail)
 obtain ⟨HF, HG, X, HX, HM⟩ := H.out.hid
 (refine Zo HM (by kernel_rfl) (by kernel_rfl) ?_; (try simp only [Act.put, Ze, Zc, Zd]); repeat ((fail_if_success (with_reducible refine wpQuiet_nil ?_)); first | go_big_quiet_skip | (go_big_quiet_want; first | (refine a17 ?_; go_big_quiet_op; go_big_quiet_on) | (refine a18 ?_; go_big_quiet_op; go_big_quiet_on) | (go_big_quiet_op; go_big_quiet_on) | (go_big_quiet_op; refine ⟨_, fun _ _ => rfl, ?_⟩; go_big_quiet_on))))
 refine wpQuiet_nil ?_
 intro w' HM'
 clear H
 have H := Zb (Ex.made HM'.out HG.out HX.out HF.out)
 clear HM HM' HF HG HX
 go_wp2_with (first | (refine a2 ?_; clear H; intro w' H) | fail)
 go_ret
 rw [← ha.out, ← hf.out]
 exact ⟨rfl, H⟩
theorem ZdC {t : Tx} {g : Rg → Nat} {st : Rg → Nat → Rg} {u : Tx} {g2 : Rg → Nat} {st2 : Rg → Nat → Rg} (hN : Nm t g st 65536) (hN2 : Nm u g2 st2 65536) (hB : Hid (Jn t = true)) (v z q f : Nat) (hv : Hid (g s.r = v)) (hz : Hid (g2 s.r = z)) (hq0 : Hid (up1 v = q)) (s1 : Cs) (hs1 : Hid (s.setWZ q = s1)) (hf : Hid (s1.r.f = f)) (p y : Nat) (hp : Hid (Yu v z 0 = p)) (hy : Hid (VR v z f = y)) (r : Rg) (hr : Hid (st s1.r p = r)) (H : Hid (Ex W0 w x b s tq ix pg l n)) :
  CX 47 #[.pointer (some ⟨x, 0, none⟩), .string ⟨#[65, 68, 68]⟩, .string ⟨t.toArray⟩, .string ⟨u.toArray⟩] w (.int .i64 11) fun w' => Hid (Ex W0 w' x b ((s1.setR r).setF y) tq ix pg l n) := by
 have v8 : v < 65536 := by rw [← hv.out]; exact hN.lt _ H.out.fits
 have z8 : z < 65536 := by rw [← hz.out]; exact hN2.lt _ H.out.fits
 have hq : Hid (wMove v 1 = q) := Zb hq0.out
 have q8 : q < 65536 := by rw [← hq0.out]; exact Zy v
 have f8 : f < 256 := by rw [← hf.out, ← hs1.out]; exact H.out.fits.f
 have hf0 := hf.out
 have es1 := hs1.out
 have p8 : p < 65536 := by rw [← hp.out]; exact Ys _ _ _
 have y8 : y < 256 := by rw [← hy.out]; exact j9 _ _ _
 go_enter Tryz.func47, Tryz.ntmps47
 go_upto_region 5 with (first | refine a1 ?_ | (refine a2 ?_; clear H; intro w' H) | (go_at_call 91; (with_reducible refine (KX t true hB _).mono ?_); rintro e w' ⟨rfl, hb⟩; replace H := Zb (H.out.call hb); clear hb) | (go_at_call 22; (with_reducible refine (Yq hN v hv H).mono ?_); clear H; rintro e w' ⟨rfl, H⟩) | (go_at_call 22; (with_reducible refine (Yq hN2 z hz H).mono ?_); clear H; rintro e w' ⟨rfl, H⟩) | (go_at_call 35; (with_reducible refine (Z6 v q v8 hq _).mono ?_); rintro e w' ⟨rfl, rfl⟩) | fail)
 rw [es1] at H
 go_wp2_with (first | refine a1 ?_ | (refine a2 ?_; clear H; intro w' H) | (go_at_call 94; (try rw [hf0]); (with_reducible refine (yQ v z f p y v8 z8 f8 hp hy _).mono ?_); rintro e w' ⟨rfl, hb⟩; replace H := Zb (H.out.call hb); clear hb) | (go_at_call 94; (try rw [hf0]); (with_reducible refine (yQ v z f p y v8 z8 f8 hp hy _).mono ?_); rintro e w' ⟨rfl, rfl⟩) | (go_at_call 49; (with_reducible refine (Z1 hN p p8 r hr H).mono ?_); clear H; rintro e w' ⟨rfl, H⟩) | fail)
 go_ret
 exact ⟨rfl, H⟩
theorem Ke {t : Tx} {g : Rg → Nat} {st : Rg → Nat → Rg} {u : Tx} {g2 : Rg → Nat} {st2 : Rg → Nat → Rg} (hN : Nm t g st 65536) (hN2 : Nm u g2 st2 65536) (hB : Hid (Jn t = true)) (v z q f : Nat) (hv : Hid (g s.r = v)) (hz : Hid (g2 s.r = z)) (hq0 : Hid (up1 v = q)) (s1 : Cs) (hs1 : Hid (s.setWZ q = s1)) (hf : Hid (s1.r.f = f)) (p y : Nat) (hp : Hid (Yu v z (f % 2) = p)) (hy : Hid (JX v z (f % 2) = y)) (r : Rg) (hr : Hid (st s1.r p = r)) (H : Hid (Ex W0 w x b s tq ix pg l n)) :
  CX 47 #[.pointer (some ⟨x, 0, none⟩), .string ⟨#[65, 68, 67]⟩, .string ⟨t.toArray⟩, .string ⟨u.toArray⟩] w (.int .i64 15) fun w' => Hid (Ex W0 w' x b ((s1.setR r).setF y) tq ix pg l n) := by
 have v8 : v < 65536 := by rw [← hv.out]; exact hN.lt _ H.out.fits
 have z8 : z < 65536 := by rw [← hz.out]; exact hN2.lt _ H.out.fits
 have hq : Hid (wMove v 1 = q) := Zb hq0.out
 have q8 : q < 65536 := by rw [← hq0.out]; exact Zy v
 have f8 : f < 256 := by rw [← hf.out, ← hs1.out]; exact H.out.fits.f
 have hf0 := hf.out
 have es1 := hs1.out
 obtain ⟨k, hk⟩ : ∃ k, Hid (f % 2 = k) := ⟨_, rfl⟩
 have hp2 : Hid (Yu v z k = p) := Zb (by rw [← hk.out]; exact hp.out)
 have hy2 : Hid (JX v z k = y) := Zb (by rw [← hk.out]; exact hy.out)
 have p8 : p < 65536 := by rw [← hp.out]; exact Ys _ _ _
 have y8 : y < 256 := by rw [← hy.out]; exact Ut _ _ _
 go_enter Tryz.func47, Tryz.ntmps47
 go_upto_region 5 with (first | refine a1 ?_ | (refine a2 ?_; clear H; intro w' H) | (go_at_call 91; (with_reducible refine (KX t true hB _).mono ?_); rintro e w' ⟨rfl, hb⟩; replace H := Zb (H.out.call hb); clear hb) | (go_at_call 22; (with_reducible refine (Yq hN v hv H).mono ?_); clear H; rintro e w' ⟨rfl, H⟩) | (go_at_call 22; (with_reducible refine (Yq hN2 z hz H).mono ?_); clear H; rintro e w' ⟨rfl, H⟩) | (go_at_call 35; (with_reducible refine (Z6 v q v8 hq _).mono ?_); rintro e w' ⟨rfl, rfl⟩) | fail)
 rw [es1] at H
 go_wp2_with (first | refine a1 ?_ | (refine a2 ?_; clear H; intro w' H) | (go_at_call 95; (try rw [hf0]); (with_reducible refine (yX v z f k p y v8 z8 f8 hk hp2 hy2 _).mono ?_); rintro e w' ⟨rfl, hb⟩; replace H := Zb (H.out.call hb); clear hb) | (go_at_call 95; (try rw [hf0]); (with_reducible refine (yX v z f k p y v8 z8 f8 hk hp2 hy2 _).mono ?_); rintro e w' ⟨rfl, rfl⟩) | (go_at_call 49; (with_reducible refine (Z1 hN p p8 r hr H).mono ?_); clear H; rintro e w' ⟨rfl, H⟩) | fail)
 go_ret
 exact ⟨rfl, H⟩
theorem Kf {t : Tx} {g : Rg → Nat} {st : Rg → Nat → Rg} {u : Tx} {g2 : Rg → Nat} {st2 : Rg → Nat → Rg} (hN : Nm t g st 65536) (hN2 : Nm u g2 st2 65536) (hB : Hid (Jn t = true)) (v z q f : Nat) (hv : Hid (g s.r = v)) (hz : Hid (g2 s.r = z)) (hq0 : Hid (up1 v = q)) (s1 : Cs) (hs1 : Hid (s.setWZ q = s1)) (hf : Hid (s1.r.f = f)) (p y : Nat) (hp : Hid (Jg v z (f % 2) = p)) (hy : Hid (Vl v z (f % 2) = y)) (r : Rg) (hr : Hid (st s1.r p = r)) (H : Hid (Ex W0 w x b s tq ix pg l n)) :
  CX 47 #[.pointer (some ⟨x, 0, none⟩), .string ⟨#[83, 66, 67]⟩, .string ⟨t.toArray⟩, .string ⟨u.toArray⟩] w (.int .i64 15) fun w' => Hid (Ex W0 w' x b ((s1.setR r).setF y) tq ix pg l n) := by
 have v8 : v < 65536 := by rw [← hv.out]; exact hN.lt _ H.out.fits
 have z8 : z < 65536 := by rw [← hz.out]; exact hN2.lt _ H.out.fits
 have hq : Hid (wMove v 1 = q) := Zb hq0.out
 have q8 : q < 65536 := by rw [← hq0.out]; exact Zy v
 have f8 : f < 256 := by rw [← hf.out, ← hs1.out]; exact H.out.fits.f
 have hf0 := hf.out
 have es1 := hs1.out
 obtain ⟨k, hk⟩ : ∃ k, Hid (f % 2 = k) := ⟨_, rfl⟩
 have hp2 : Hid (Jg v z k = p) := Zb (by rw [← hk.out]; exact hp.out)
 have hy2 : Hid (Vl v z k = y) := Zb (by rw [← hk.out]; exact hy.out)
 have p8 : p < 65536 := by rw [← hp.out]; exact Us _ _ _
 have y8 : y < 256 := by rw [← hy.out]; exact ya _ _ _
 go_enter Tryz.func47, Tryz.ntmps47
 go_upto_region 5 with (first | refine a1 ?_ | (refine a2 ?_; clear H; intro w' H) | (go_at_call 91; (with_reducible refine (KX t true hB _).mono ?_); rintro e w' ⟨rfl, hb⟩; replace H := Zb (H.out.call hb); clear hb) | (go_at_call 22; (with_reducible refine (Yq hN v hv H).mono ?_); clear H; rintro e w' ⟨rfl, H⟩) | (go_at_call 22; (with_reducible refine (Yq hN2 z hz H).mono ?_); clear H; rintro e w' ⟨rfl, H⟩) | (go_at_call 35; (with_reducible refine (Z6 v q v8 hq _).mono ?_); rintro e w' ⟨rfl, rfl⟩) | fail)
 rw [es1] at H
 go_wp2_with (first | refine a1 ?_ | (refine a2 ?_; clear H; intro w' H) | (go_at_call 96; (try rw [hf0]); (with_reducible refine (yY v z f k p y v8 z8 f8 hk hp2 hy2 _).mono ?_); rintro e w' ⟨rfl, hb⟩; replace H := Zb (H.out.call hb); clear hb) | (go_at_call 96; (try rw [hf0]); (with_reducible refine (yY v z f k p y v8 z8 f8 hk hp2 hy2 _).mono ?_); rintro e w' ⟨rfl, rfl⟩) | (go_at_call 49; (with_reducible refine (Z1 hN p p8 r hr H).mono ?_); clear H; rintro e w' ⟨rfl, H⟩) | fail)
 go_ret
 exact ⟨rfl, H⟩
end
end Go.Proofs.YtgdeeiimkhjfiaaGreatDoor
