import Derived.Test.YtgdeeiimkhjfiaaGreatDoorV28
set_option maxRecDepth 100000
set_option maxHeartbeats 6400000
namespace Go.Proofs.YtgdeeiimkhjfiaaGreatDoor
open Go.RowKit
section
variable {W0 w : World} {x b tq n c : Nat} {s : Cs} {ix : Bool} {pg : Int} {l : Zj}
theorem k37 {P : Prop} (h : P := by
 rw [← ha.out]
 have h1 : s.m (up1 s.r.pc) < 256 := Ex.m8 H _
 have h2 : s.m s.r.pc < 256 := Ex.m8 H _
 show s.m (up1 s.r.pc) * 256 + s.m s.r.pc < 65536
 omega) : P := h
theorem Zlt (a q : Nat) (s1 s2 : Cs) (ha : Hid (s.nextNumV = a)) (hs1 : Hid (s.nextNum = s1)) (hq0 : Hid (up1 a = q)) (hs2 : Hid (s1.setWZ q = s2)) (A : Nat) (hA : Hid (s2.r.a = A)) (s3 : Cs) (hs3 : Hid (s2.wr a A = s3)) (j : Nat) (hj0 : Hid (A * 256 + q % 256 = j)) (H : Hid (Ex W0 w x b s tq ix pg l (n + 3))) :
  CX 83 #[.pointer (some ⟨x, 0, none⟩), .string ⟨#[40, 110, 110, 41]⟩, .string ⟨#[65]⟩] w (.int .i64 13) fun w' => Hid (Ex W0 w' x b (s3.setWZ j) tq ix pg l n) := by
 have hq : Hid (wMove a 1 = q) := Zb hq0.out
 have q8 : q < 65536 := by rw [← hq0.out]; exact Zy a
 obtain ⟨lo, hlo⟩ : ∃ x, Hid (q % 256 = x) := ⟨_, rfl⟩
 have bA : A < 256 := by rw [← hA.out, ← hs2.out, ← hs1.out]; exact H.out.fits.a
 have blo : lo < 256 := by have := hlo.out; omega
 have hj : Hid (A * 256 + lo = j) := Zb (by rw [← hlo.out]; exact hj0.out)
 have bj : j < 65536 := by have := hj.out; omega
 have a8 : a < 65536 := by
  exact k37
 have e1 : ((a : Int) + 1).tmod 256 = (lo : Int) := by
  have := hlo.out; have := hq0.out; unfold up1 at this
  rw [Int.tmod_eq_emod_of_nonneg (by omega)]; omega
 have e2 : IntKind.u8.wrap (lo : Int) = (lo : Int) := by rw [IntKind.wrap_u8]; omega
 have hA2 := hA.out
 have hA3 : s3.r.a = A := by rw [← hA.out, ← hs3.out]
 by_cases hp : (pg == 2) = true
 all_goals (try (have hp : (pg == 2) = false := by simpa using hp))
 all_goals
  go_enter Tryz.func83, Tryz.ntmps83
  go_upto_region 3 with (first | (go_at_call 84; (with_reducible refine (VD a s1 ha hs1 H).mono ?_); clear H; rintro e w' ⟨rfl, ba, H⟩) | (refine a2 ?_; clear H; intro w' H) | refine a1 ?_ | (go_at_call 35; (with_reducible refine (Z6 a q ba hq _).mono ?_); rintro e w' ⟨rfl, rfl⟩) | fail)
  rw [hs2.out] at H
  go_upto_region 13 with (first | refine a1 ?_ | fail)
  obtain ⟨HF, HG, X, HX, HM⟩ := H.out.hid
  (refine Zk 11 HM (by kernel_rfl) (by kernel_rfl) (by kernel_rfl) ?_; simp only [List.take_succ_cons, List.take_zero, List.drop_succ_cons, List.drop_zero]; (try simp only [Act.put, Ze, Zc, Zd]); repeat ((fail_if_success (with_reducible refine wpQuiet_nil ?_)); first | go_big_quiet_skip | (go_big_quiet_want; first | (refine a17 ?_; go_big_quiet_op; go_big_quiet_on) | (refine a18 ?_; go_big_quiet_op; go_big_quiet_on) | (go_big_quiet_op; go_big_quiet_on) | (go_big_quiet_op; refine ⟨_, fun _ _ => rfl, ?_⟩; go_big_quiet_on))))
  refine wpQuiet_nil ?_
  intro w' HM'
  clear H
  have H := Zb (Ex.made HM'.out HG.out HX.out HF.out)
  clear HM HM' HF HG HX
  go_upto_region 14 with (first | (go_at_call 59; (try rw [hA2]); (with_reducible refine (JJ a A s3 a8 bA hs3 H).mono ?_); clear H; rintro e w' ⟨rfl, H⟩) | fail)
  go_wp2_with (first | refine a1 ?_ | (refine a2 ?_; clear H; intro w' H) | (go_at_call 60; (try rw [hA3]); (with_reducible refine (Jd A lo j bA blo hj _).mono ?_); rintro e w' ⟨rfl, rfl⟩) | fail)
  go_ret
  exact ⟨rfl, H⟩
theorem k19 {P : Prop} (h : P := by
 subst hc2
 go_enter Tryz.func83, Tryz.ntmps83
 go_upto_region 3 with (first | (go_at_call 84; (with_reducible refine (VD a s1 ha hs1 H).mono ?_); clear H; rintro e w' ⟨rfl, ba, H⟩) | (refine a2 ?_; clear H; intro w' H) | refine a1 ?_ | (go_at_call 35; (with_reducible refine (Z6 a q ba hq _).mono ?_); rintro e w' ⟨rfl, rfl⟩) | fail)
 rw [hs2.out] at H
 go_wp2_with (first | refine a1 ?_ | (go_at_call 22; (with_reducible refine (Yq hN v hv H).mono ?_); clear H; rintro e w' ⟨rfl, H⟩) | (go_at_call 101; (with_reducible refine (ZgJ a v s3 a8 bv hs3 H).mono ?_); clear H; rintro e w' ⟨rfl, H⟩) | fail)
 go_ret
 exact ⟨rfl, H⟩) : P := h
theorem zk {u : Tx} {g2 : Rg → Nat} {st2 : Rg → Nat → Rg} (a q : Nat) (s1 s2 : Cs) (ha : Hid (s.nextNumV = a)) (hs1 : Hid (s.nextNum = s1)) (hq0 : Hid (up1 a = q)) (hs2 : Hid (s1.setWZ q = s2)) (hN : Nm u g2 st2 65536) (uA : (u == [65]) = false) (v : Nat) (hv : Hid (g2 s2.r = v)) (s3 : Cs) (hs3 : Hid (s2.setNum a v = s3)) (c : Int) (hc : cond (pg == 2) 20 16 = c) (H : Hid (Ex W0 w x b s tq ix pg l (n + 4))) :
  CX 83 #[.pointer (some ⟨x, 0, none⟩), .string ⟨#[40, 110, 110, 41]⟩, .string ⟨u.toArray⟩] w (.int .i64 c) fun w' => Hid (Ex W0 w' x b s3 tq ix pg l n) := by
 have hq : Hid (wMove a 1 = q) := Zb hq0.out
 have q8 : q < 65536 := by rw [← hq0.out]; exact Zy a
 have a8 : a < 65536 := by
  exact k37
 have bv : v < 65536 := by rw [← hv.out, ← hs2.out, ← hs1.out]; exact hN.lt _ { H.out.fits with pc := by show (s.r.pc + 2) % 65536 < 65536; omega, wz := q8 }
 cases hp : (pg == 2)
 ·have hpb : (pg == 2) = false := hp
  have hc2 : c = 16 := by rw [← hc, hpb]; rfl
  exact k19
 ·have hpb : (pg == 2) = true := hp
  have hc2 : c = 20 := by rw [← hc, hpb]; rfl
  exact k19
theorem k18 {P : Prop} (h : P := by
 subst hc2
 go_enter Tryz.func83, Tryz.ntmps83
 go_upto_region 3 with (first | (go_at_call 84; (with_reducible refine (VD a s1 ha hs1 H).mono ?_); clear H; rintro e w' ⟨rfl, ba, H⟩) | (refine a2 ?_; clear H; intro w' H) | refine a1 ?_ | (go_at_call 35; (with_reducible refine (Z6 a q ba hq _).mono ?_); rintro e w' ⟨rfl, rfl⟩) | fail)
 rw [hs2.out] at H
 go_wp2_with (first | refine a1 ?_ | (go_at_call 28; (with_reducible refine (ZiH a v s3 a8 hv hs3 H).mono ?_); clear H; rintro e w' ⟨rfl, bv, H⟩) | (go_at_call 49; (with_reducible refine (Z1 hN v bv r hr H).mono ?_); clear H; rintro e w' ⟨rfl, H⟩) | fail)
 go_ret
 exact ⟨rfl, H⟩) : P := h
theorem zl {t : Tx} {g : Rg → Nat} {st : Rg → Nat → Rg} (a q : Nat) (s1 s2 : Cs) (ha : Hid (s.nextNumV = a)) (hs1 : Hid (s.nextNum = s1)) (hq0 : Hid (up1 a = q)) (hs2 : Hid (s1.setWZ q = s2)) (hN : Nm t g st 65536) (tA : (t == [65]) = false) (tNN : (t == [40, 110, 110, 41]) = false) (v : Nat) (s3 : Cs) (hv : Hid (s2.numV a = v)) (hs3 : Hid (s2.num a = s3)) (r : Rg) (hr : Hid (st s3.r v = r)) (c : Int) (hc : cond (pg == 2) 20 16 = c) (H : Hid (Ex W0 w x b s tq ix pg l (n + 4))) :
  CX 83 #[.pointer (some ⟨x, 0, none⟩), .string ⟨t.toArray⟩, .string ⟨#[40, 110, 110, 41]⟩] w (.int .i64 c) fun w' => Hid (Ex W0 w' x b (s3.setR r) tq ix pg l n) := by
 have hq : Hid (wMove a 1 = q) := Zb hq0.out
 have q8 : q < 65536 := by rw [← hq0.out]; exact Zy a
 have a8 : a < 65536 := by
  exact k37
 cases hp : (pg == 2)
 ·have hpb : (pg == 2) = false := hp
  have hc2 : c = 16 := by rw [← hc, hpb]; rfl
  exact k18
 ·have hpb : (pg == 2) = true := hp
  have hc2 : c = 20 := by rw [← hc, hpb]; rfl
  exact k18
def Jn (t : Tx) : Bool := (List.range 7).any fun k => naT k == t
theorem Zdq (k : Nat) (hk : k < 7) : nameCells[k]? = some (.string ⟨(naT k).toArray⟩) := by rw [Ziq k hk, jJ]
theorem KX (t : Tx) (B : Bool) (hB : Hid (Jn t = B)) (w : World) : CB 91 #[.string ⟨t.toArray⟩] w (.bool B) := by
 have HM := Zb (Own.start w)
 go_enter Tryz.func91, Tryz.ntmps91
 go_wp2_with (first | (go_at_call 162; (with_reducible refine (Zdc _).mono ?_); rintro e w' ⟨g, hg, rfl, hb, hW⟩; have HM' := Zb (HM.out.plus hb hg hW); clear HM hb hg hW; have HM := HM'; clear HM'))
 go_loopw [4, 7] (fun s i wr => ∃ k : Nat, k ≤ 7 ∧ i = .int .i64 (k : Int) ∧ (∀ j, j < k → (naT j == t) = false) ∧ Hid (Own w wr [(g, 9, nameCells)])) (fun _ i _ => 7 - (intOf i).toNat)
 case atStart => exact ⟨0, by omega, rfl, fun j hj => absurd hj (by omega), HM⟩
 case round =>
  clear HM
  obtain ⟨k, hk, rfl, HN, HM⟩ := hrel
  by_cases hlt : k < 7
  ·have hlt' : (k : Int) < 7 := by omega
   obtain ⟨m, hm⟩ : ∃ m, naT k = m := ⟨_, rfl⟩
   have HMk := Zb (Zdq k hlt)
   rw [hm] at HMk
   have HN' := Zb HN
   clear HN
   cases hq : (m == t)
   ·go_wp2_with (first | refine a73 ?_)
    go_roundw
    case rel =>
     refine ⟨k + 1, by omega, by go_num, fun j hj => ?_, HM⟩
     by_cases e : j = k
     ·rw [e, hm]; exact hq
     ·exact HN'.out j (by omega)
    case measure => simp [intOf]; omega
   ·have HB : true = B := by
     rw [← hB.out]
     exact (List.any_eq_true.2 ⟨k, List.mem_range.2 hlt, by rw [hm]; exact hq⟩).symm
    subst HB
    go_wp2_with (first | refine a73 ?_)
    go_ret
    exact ⟨rfl, Own.fin HM⟩
  ·obtain rfl : k = 7 := by omega
   have HB : false = B := by
    rw [← hB.out]
    refine (List.any_eq_false.2 fun j hj => ?_).symm
    rw [HN j (List.mem_range.1 hj)]; decide
   subst HB
   go_wp2
   go_ret
   exact ⟨rfl, Own.fin HM⟩
theorem yS (p q : Nat) (hp : p < 65536) (hq : dn1 p = q) : ∃ u : Int, ((p : Int) - 1).tmod 65536 = u ∧ (u + 65536).tmod 65536 = (q : Int) ∧ -65536 < u ∧ u < 65536 := Zic p q hp (Zb hq)
theorem ZaM {t : Tx} {g : Rg → Nat} {st : Rg → Nat → Rg} (hN : Nm t g st 65536) (hB : Hid (Jn t = true)) (z q : Nat) (hz : Hid (g s.r = z)) (hq : Hid (up1 z = q)) (r : Rg) (hr : Hid (st s.r q = r)) (H : Hid (Ex W0 w x b s tq ix pg l n)) :
  CX 46 #[.pointer (some ⟨x, 0, none⟩), .string ⟨#[73, 78, 67]⟩, .string ⟨t.toArray⟩] w (.int .i64 6) fun w' => Hid (Ex W0 w' x b (s.setR r) tq ix pg l n) := by
 have z8 : z < 65536 := by rw [← hz.out]; exact hN.lt _ H.out.fits
 have q8 : q < 65536 := by rw [← hq.out]; exact Zy z
 obtain ⟨u, hu1, hu2, hu3, hu4⟩ := Zlj z 1 q z8 (by decide) (by have := hq.out; unfold up1 at this; exact this)
 have hu1 : ((z : Int) + 1).tmod 65536 = u := hu1
 go_enter Tryz.func46, Tryz.ntmps46
 go_wp2_with (first | (go_at_call 91; (with_reducible refine (KX t true hB _).mono ?_); rintro e w' ⟨rfl, hb⟩; replace H := Zb (H.out.call hb); clear hb) | (go_at_call 22; (with_reducible refine (Yq hN z hz H).mono ?_); clear H; rintro e w' ⟨rfl, H⟩) | (go_at_call 49; (with_reducible refine (Y1 hN _ u q q8 hu1 hu2 hu3 hu4 r hr H).mono ?_); clear H; rintro e w' ⟨rfl, H⟩) | fail)
 go_ret
 exact ⟨rfl, H⟩
theorem ZaN {t : Tx} {g : Rg → Nat} {st : Rg → Nat → Rg} (hN1 : Nm t g st 256) (hUt : Un t) (hB : Hid (Jn t = false)) (v f : Nat) (hv : Hid (g s.r = v)) (hf : Hid (s.r.f = f)) (p y : Nat) (hp : Hid (Yw v 1 0 = p)) (hy : Hid (YE (Yp v 1 0) f = y)) (r : Rg) (hr : Hid (st s.r p = r)) (H : Hid (Ex W0 w x b s tq ix pg l n)) :
  CX 46 #[.pointer (some ⟨x, 0, none⟩), .string ⟨#[73, 78, 67]⟩, .string ⟨t.toArray⟩] w (.int .i64 4) fun w' => Hid (Ex W0 w' x b ((s.setR r).setF y) tq ix pg l n) := by
 have utNN := hUt [40, 110, 110, 41] (by decide)
 have utSP := hUt [83, 80] (by decide)
 have utI := hUt [73] (by decide)
 have utR := hUt [82] (by decide)
 have utBC := hUt [40, 66, 67, 41] (by decide)
 have utDE := hUt [40, 68, 69, 41] (by decide)
 have utHL := hUt [40, 72, 76, 41] (by decide)
 have utIX := hUt [40, 73, 88, 43, 100, 41] (by decide)
 have utIY := hUt [40, 73, 89, 43, 100, 41] (by decide)
 have utn := hUt [110] (by decide)
 have utnn := hUt [110, 110] (by decide)
 have bv : v < 256 := by rw [← hv.out]; exact hN1.lt _ H.out.fits
 have f8 : f < 256 := by rw [← hf.out]; exact H.out.fits.f
 have hf0 := hf.out
 have bp : p < 256 := by rw [← hp.out]; exact YL _ _ _
 have y8 : y < 256 := by rw [← hy.out]; exact YB _ _
 go_enter Tryz.func46, Tryz.ntmps46
 go_wp2_with (first | refine a1 ?_ | (refine a2 ?_; clear H; intro w' H) | (go_at_call 91; (with_reducible refine (KX t false hB _).mono ?_); rintro e w' ⟨rfl, hb⟩; replace H := Zb (H.out.call hb); clear hb) | (go_at_call 88; (with_reducible refine (Kb hN1 utn utHL utIX utIY utBC utDE v hv H).mono ?_); clear H; rintro e w' ⟨rfl, _, H⟩) | (go_at_call 87; (with_reducible refine (Zkf hN1 utn utHL utIX utIY utBC utDE p bp r hr H).mono ?_); clear H; rintro e w' ⟨rfl, H⟩) | (go_at_call 89; (with_reducible refine (Uc t _ _ _ utHL utIX utIY H).mono ?_); clear H; rintro e w' ⟨rfl, H⟩) | (go_at_call 92; (try rw [hf0]); (with_reducible refine (US v f p y bv f8 hp hy _).mono ?_); rintro e w' ⟨rfl, hb⟩; replace H := Zb (H.out.call hb); clear hb) | fail)
 go_ret
 exact ⟨rfl, H⟩
theorem ZaO {t : Tx} (hMt : Mem t) (hB : Hid (Jn t = false)) (hq : tq < 65536) (v f : Nat) (s1 s2 : Cs) (hv : Hid (s.m tq = v)) (hf : Hid (s.r.f = f)) (hs1 : Hid (s.rd tq = s1)) (p y : Nat) (hp : Hid (Yw v 1 0 = p)) (hy : Hid (YE (Yp v 1 0) f = y)) (hs2 : Hid (s1.wr tq p = s2)) (c : Int) (hc : cond ix 19 11 = c) (H : Hid (Ex W0 w x b s tq ix pg l (n + 2))) :
  CX 46 #[.pointer (some ⟨x, 0, none⟩), .string ⟨#[73, 78, 67]⟩, .string ⟨t.toArray⟩] w (.int .i64 c) fun w' => Hid (Ex W0 w' x b (s2.setF y) tq ix pg l n) := by
 have bv : v < 256 := by rw [← hv.out]; exact Ex.m8 H _
 have f8 : f < 256 := by rw [← hf.out]; exact H.out.fits.f
 have hf0 : s1.r.f = f := by rw [← hf.out, ← hs1.out]
 have bp : p < 256 := by rw [← hp.out]; exact YL _ _ _
 have y8 : y < 256 := by rw [← hy.out]; exact YB _ _
 go_enter Tryz.func46, Tryz.ntmps46
 go_wp2_with (first | refine a1 ?_ | (refine a2 ?_; clear H; intro w' H) | (go_at_call 91; (with_reducible refine (KX t false hB _).mono ?_); rintro e w' ⟨rfl, hb⟩; replace H := Zb (H.out.call hb); clear hb) | (go_at_call 88; (with_reducible refine (Jm t hMt v s1 hq hv hs1 H).mono ?_); clear H; rintro e w' ⟨rfl, _, H⟩) | (go_at_call 87; (with_reducible refine (Kc t hMt p s2 hq bp hs2 H).mono ?_); clear H; rintro e w' ⟨rfl, H⟩) | (go_at_call 89; (with_reducible refine (JR t hMt _ _ _ c hc H).mono ?_); clear H; rintro e w' ⟨rfl, H⟩) | (go_at_call 92; (try rw [hf0]); (with_reducible refine (US v f p y bv f8 hp hy _).mono ?_); rintro e w' ⟨rfl, hb⟩; replace H := Zb (H.out.call hb); clear hb) | fail)
 go_ret
 exact ⟨rfl, H⟩
theorem ZaP {t : Tx} {g : Rg → Nat} {st : Rg → Nat → Rg} (hN : Nm t g st 65536) (hB : Hid (Jn t = true)) (z q : Nat) (hz : Hid (g s.r = z)) (hq : Hid (dn1 z = q)) (r : Rg) (hr : Hid (st s.r q = r)) (H : Hid (Ex W0 w x b s tq ix pg l n)) :
  CX 46 #[.pointer (some ⟨x, 0, none⟩), .string ⟨#[68, 69, 67]⟩, .string ⟨t.toArray⟩] w (.int .i64 6) fun w' => Hid (Ex W0 w' x b (s.setR r) tq ix pg l n) := by
 have z8 : z < 65536 := by rw [← hz.out]; exact hN.lt _ H.out.fits
 have q8 : q < 65536 := by rw [← hq.out]; exact ZP z
 obtain ⟨u, hu1, hu2, hu3, hu4⟩ := yS z q z8 hq.out
 have hu1 : ((z : Int) - 1).tmod 65536 = u := hu1
 go_enter Tryz.func46, Tryz.ntmps46
 go_wp2_with (first | (go_at_call 91; (with_reducible refine (KX t true hB _).mono ?_); rintro e w' ⟨rfl, hb⟩; replace H := Zb (H.out.call hb); clear hb) | (go_at_call 22; (with_reducible refine (Yq hN z hz H).mono ?_); clear H; rintro e w' ⟨rfl, H⟩) | (go_at_call 49; (with_reducible refine (Y1 hN _ u q q8 hu1 hu2 hu3 hu4 r hr H).mono ?_); clear H; rintro e w' ⟨rfl, H⟩) | fail)
 go_ret
 exact ⟨rfl, H⟩
theorem ZaQ {t : Tx} {g : Rg → Nat} {st : Rg → Nat → Rg} (hN1 : Nm t g st 256) (hUt : Un t) (hB : Hid (Jn t = false)) (v f : Nat) (hv : Hid (g s.r = v)) (hf : Hid (s.r.f = f)) (p y : Nat) (hp : Hid (ZY v 1 0 = p)) (hy : Hid (YE (ZU v 1 0) f = y)) (r : Rg) (hr : Hid (st s.r p = r)) (H : Hid (Ex W0 w x b s tq ix pg l n)) :
  CX 46 #[.pointer (some ⟨x, 0, none⟩), .string ⟨#[68, 69, 67]⟩, .string ⟨t.toArray⟩] w (.int .i64 4) fun w' => Hid (Ex W0 w' x b ((s.setR r).setF y) tq ix pg l n) := by
 have utNN := hUt [40, 110, 110, 41] (by decide)
 have utSP := hUt [83, 80] (by decide)
 have utI := hUt [73] (by decide)
 have utR := hUt [82] (by decide)
 have utBC := hUt [40, 66, 67, 41] (by decide)
 have utDE := hUt [40, 68, 69, 41] (by decide)
 have utHL := hUt [40, 72, 76, 41] (by decide)
 have utIX := hUt [40, 73, 88, 43, 100, 41] (by decide)
 have utIY := hUt [40, 73, 89, 43, 100, 41] (by decide)
 have utn := hUt [110] (by decide)
 have utnn := hUt [110, 110] (by decide)
 have bv : v < 256 := by rw [← hv.out]; exact hN1.lt _ H.out.fits
 have f8 : f < 256 := by rw [← hf.out]; exact H.out.fits.f
 have hf0 := hf.out
 have bp : p < 256 := by rw [← hp.out]; exact Yn _ _ _
 have y8 : y < 256 := by rw [← hy.out]; exact YB _ _
 obtain ⟨iv, hiv⟩ : ∃ x, Hid (Yw v 1 0 = x) := ⟨_, rfl⟩
 obtain ⟨jf, hjf⟩ : ∃ x, Hid (YE (Yp v 1 0) f = x) := ⟨_, rfl⟩
 go_enter Tryz.func46, Tryz.ntmps46
 go_wp2_with (first | refine a1 ?_ | (refine a2 ?_; clear H; intro w' H) | (go_at_call 91; (with_reducible refine (KX t false hB _).mono ?_); rintro e w' ⟨rfl, hb⟩; replace H := Zb (H.out.call hb); clear hb) | (go_at_call 88; (with_reducible refine (Kb hN1 utn utHL utIX utIY utBC utDE v hv H).mono ?_); clear H; rintro e w' ⟨rfl, _, H⟩) | (go_at_call 87; (with_reducible refine (Zkf hN1 utn utHL utIX utIY utBC utDE p bp r hr H).mono ?_); clear H; rintro e w' ⟨rfl, H⟩) | (go_at_call 89; (with_reducible refine (Uc t _ _ _ utHL utIX utIY H).mono ?_); clear H; rintro e w' ⟨rfl, H⟩) | (go_at_call 92; (try rw [hf0]); (with_reducible refine (US v f iv jf bv f8 hiv hjf _).mono ?_); rintro e w' ⟨rfl, hb⟩; replace H := Zb (H.out.call hb); clear hb) | (go_at_call 93; (try rw [hf0]); (with_reducible refine (Zdp v f p y bv f8 hp hy _).mono ?_); rintro e w' ⟨rfl, hb⟩; replace H := Zb (H.out.call hb); clear hb) | fail)
 go_ret
 exact ⟨rfl, H⟩
theorem ZaR {t : Tx} (hMt : Mem t) (hB : Hid (Jn t = false)) (hq : tq < 65536) (v f : Nat) (s1 s2 : Cs) (hv : Hid (s.m tq = v)) (hf : Hid (s.r.f = f)) (hs1 : Hid (s.rd tq = s1)) (p y : Nat) (hp : Hid (ZY v 1 0 = p)) (hy : Hid (YE (ZU v 1 0) f = y)) (hs2 : Hid (s1.wr tq p = s2)) (c : Int) (hc : cond ix 19 11 = c) (H : Hid (Ex W0 w x b s tq ix pg l (n + 2))) :
  CX 46 #[.pointer (some ⟨x, 0, none⟩), .string ⟨#[68, 69, 67]⟩, .string ⟨t.toArray⟩] w (.int .i64 c) fun w' => Hid (Ex W0 w' x b (s2.setF y) tq ix pg l n) := by
 have bv : v < 256 := by rw [← hv.out]; exact Ex.m8 H _
 have f8 : f < 256 := by rw [← hf.out]; exact H.out.fits.f
 have hf0 : s1.r.f = f := by rw [← hf.out, ← hs1.out]
 have bp : p < 256 := by rw [← hp.out]; exact Yn _ _ _
 have y8 : y < 256 := by rw [← hy.out]; exact YB _ _
 obtain ⟨iv, hiv⟩ : ∃ x, Hid (Yw v 1 0 = x) := ⟨_, rfl⟩
 obtain ⟨jf, hjf⟩ : ∃ x, Hid (YE (Yp v 1 0) f = x) := ⟨_, rfl⟩
 go_enter Tryz.func46, Tryz.ntmps46
 go_wp2_with (first | refine a1 ?_ | (refine a2 ?_; clear H; intro w' H) | (go_at_call 91; (with_reducible refine (KX t false hB _).mono ?_); rintro e w' ⟨rfl, hb⟩; replace H := Zb (H.out.call hb); clear hb) | (go_at_call 88; (with_reducible refine (Jm t hMt v s1 hq hv hs1 H).mono ?_); clear H; rintro e w' ⟨rfl, _, H⟩) | (go_at_call 87; (with_reducible refine (Kc t hMt p s2 hq bp hs2 H).mono ?_); clear H; rintro e w' ⟨rfl, H⟩) | (go_at_call 89; (with_reducible refine (JR t hMt _ _ _ c hc H).mono ?_); clear H; rintro e w' ⟨rfl, H⟩) | (go_at_call 92; (try rw [hf0]); (with_reducible refine (US v f iv jf bv f8 hiv hjf _).mono ?_); rintro e w' ⟨rfl, hb⟩; replace H := Zb (H.out.call hb); clear hb) | (go_at_call 93; (try rw [hf0]); (with_reducible refine (Zdp v f p y bv f8 hp hy _).mono ?_); rintro e w' ⟨rfl, hb⟩; replace H := Zb (H.out.call hb); clear hb) | fail)
 go_ret
 exact ⟨rfl, H⟩
end
end Go.Proofs.YtgdeeiimkhjfiaaGreatDoor
