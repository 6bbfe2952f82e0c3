import Derived.Test.YtgdeeiimkhjfiaaGreatDoorV39
set_option maxRecDepth 100000
set_option maxHeartbeats 6400000
namespace Go.Proofs.YtgdeeiimkhjfiaaGreatDoor
open Go.RowKit
section
variable {W0 w : World} {x b tq n c : Nat} {s : Cs} {ix : Bool} {pg : Int} {l : Zj}
theorem Zjy (q : Nat) (hq : Q3 q) (s : Cs) (hp : s.px = q) (y : Nat) (hy : y < 8) (c0 : ¬ y = 6) : Zg (Zn (Zr q) (64 + 8 * y + 6)) (Zr q) s.point s.pointV (Nat.beq q 0).not 1 (((s.either 7 15 : Nat) : Int)) ((s.point.rd s.pointV).setOwn (y : Int) (s.m s.pointV)) := by
 have hw : W2 (Zn (Zr q) (64 + 8 * y + 6)) ([76, 68]) (leT y 0) (meT q) = true := by
  exact k33
 obtain ⟨r, px, u⟩ := s
 obtain rfl : px = q := hp
 rcases hq with rfl | rfl | rfl <;> exact Z4 hw (.ld_ _) (fun _ _ _ _ _ _ H => Zlm (Nm.ofLet y 0 (by omega)) (YJ y 0 (by omega) (by decide)) (VL _ (by decide)) (VM _ H.out.fits) _ _ rfl rfl _ rfl _ rfl H) rfl rfl
theorem Zjz (q : Nat) (hq : Q3 q) (s : Cs) (hp : s.px = q) (z : Nat) (hz : z < 8) (c0 : ¬ z = 6) : Zg (Zn (Zr q) (112 + z)) (Zr q) s.point s.pointV (Nat.beq q 0).not 1 (((s.either 7 15 : Nat) : Int)) (s.point.wr s.pointV (s.own (z : Int))) := by
 have hw : W2 (Zn (Zr q) (112 + z)) ([76, 68]) (meT q) (leT z 0) = true := by
  revert c0 hz z; rcases hq with rfl | rfl | rfl <;> decide +kernel
 obtain ⟨r, px, u⟩ := s
 obtain rfl : px = q := hp
 rcases hq with rfl | rfl | rfl <;> exact Z4 hw (.ld_ _) (fun _ _ _ _ _ _ H => Zln (Nm.ofLet z 0 (by omega)) (YJ z 0 (by omega) (by decide)) (VL _ (by decide)) (VM _ H.out.fits) _ _ rfl rfl _ rfl H) rfl rfl
theorem ZfX (q : Nat) (hq : Q3 q) (s : Cs) (hp : s.px = q) (y : Nat) (hy : y < 8) (c0 : y = 0 ∨ y = 1 ∨ y = 3) : Zg (Zn (Zr q) (128 + 8 * y + 6)) (Zr q) s.point s.pointV (Nat.beq q 0).not 1 (((s.either 7 15 : Nat) : Int)) ((s.point.rd s.pointV).sum y (s.m s.pointV)) := by
 have hw : W2 (Zn (Zr q) (128 + 8 * y + 6)) (suT.getD y []) (sA y (meT q)) (sB y (meT q)) = true := by
  exact k33
 rw [show sA y (meT q) = [65] from if_pos c0, show sB y (meT q) = meT q from if_pos c0] at hw
 obtain ⟨r, px, u⟩ := s
 obtain rfl : px = q := hp
 rcases hq with rfl | rfl | rfl <;> exact Z4 hw ((KH _ _ _ _ y hy)) (fun _ _ _ _ _ _ H => ZgL (t := [65]) (u := meT _) (VL _ (by decide)) (VM _ H.out.fits) _ rfl y hy _ rfl _ _ rfl rfl _ _ _ rfl rfl false rfl rfl rfl rfl _ rfl H) rfl rfl
theorem ZfY (q : Nat) (hq : Q3 q) (s : Cs) (hp : s.px = q) (y : Nat) (hy : y < 8) (c0 : ¬ (y = 0 ∨ y = 1 ∨ y = 3)) : Zg (Zn (Zr q) (128 + 8 * y + 6)) (Zr q) s.point s.pointV (Nat.beq q 0).not 1 (((s.either 7 15 : Nat) : Int)) ((s.point.rd s.pointV).sum y (s.m s.pointV)) := by
 have hw : W2 (Zn (Zr q) (128 + 8 * y + 6)) (suT.getD y []) (sA y (meT q)) (sB y (meT q)) = true := by
  exact k33
 rw [show sA y (meT q) = meT q from if_neg c0, show sB y (meT q) = [] from if_neg c0] at hw
 obtain ⟨r, px, u⟩ := s
 obtain rfl : px = q := hp
 rcases hq with rfl | rfl | rfl <;> exact Z4 hw ((KH _ _ _ _ y hy)) (fun _ _ _ _ _ _ H => ZgL (t := meT _) (u := []) (VL _ (by decide)) (VM _ H.out.fits) _ rfl y hy _ rfl _ _ rfl rfl _ _ _ rfl rfl true rfl (jR _ (by decide)) rfl rfl _ rfl H) rfl rfl
theorem ZjA (q : Nat) (hq : Q3 q) (s : Cs) (hp : s.px = q) : Zg (Zn (Zr q) (52)) (Zr q) s.point s.pointV (Nat.beq q 0).not 2 (((s.either 11 19 : Nat) : Int)) (((s.point.rd s.pointV).wr s.pointV (Cs.countV false (s.m s.pointV))).setF (Cs.countF false (s.m s.pointV) s.r.f)) := by
 have hw : W2 (Zn (Zr q) (52)) ([73, 78, 67]) (meT q) ([]) = true := by
  rcases hq with rfl | rfl | rfl <;> decide +kernel
 obtain ⟨r, px, u⟩ := s
 obtain rfl : px = q := hp
 rcases hq with rfl | rfl | rfl <;> exact Z4 hw (.inc_ _) (fun _ _ _ _ _ _ H => ZaO (t := meT _) (VL _ (by decide)) (jR _ (by decide)) (VM _ H.out.fits) _ _ _ _ rfl rfl rfl _ _ rfl rfl rfl _ rfl H) rfl rfl
theorem ZjB (q : Nat) (hq : Q3 q) (s : Cs) (hp : s.px = q) : Zg (Zn (Zr q) (53)) (Zr q) s.point s.pointV (Nat.beq q 0).not 2 (((s.either 11 19 : Nat) : Int)) (((s.point.rd s.pointV).wr s.pointV (Cs.countV true (s.m s.pointV))).setF (Cs.countF true (s.m s.pointV) s.r.f)) := by
 have hw : W2 (Zn (Zr q) (53)) ([68, 69, 67]) (meT q) ([]) = true := by
  rcases hq with rfl | rfl | rfl <;> decide +kernel
 obtain ⟨r, px, u⟩ := s
 obtain rfl : px = q := hp
 rcases hq with rfl | rfl | rfl <;> exact Z4 hw (.dec_ _) (fun _ _ _ _ _ _ H => ZaR (t := meT _) (VL _ (by decide)) (jR _ (by decide)) (VM _ H.out.fits) _ _ _ _ rfl rfl rfl _ _ rfl rfl rfl _ rfl H) rfl rfl
theorem ZjC (q : Nat) (hq : Q3 q) (s : Cs) (hp : s.px = q) : Zg (Zn (Zr q) (54)) (Zr q) s.point s.pointV (Nat.beq q 0).not 2 (((s.either 10 15 : Nat) : Int)) (s.point.next.wr s.pointV s.point.nextV) := by
 have hw : W2 (Zn (Zr q) (54)) ([76, 68]) (meT q) ([110]) = true := by
  rcases hq with rfl | rfl | rfl <;> decide +kernel
 obtain ⟨r, px, u⟩ := s
 obtain rfl : px = q := hp
 rcases hq with rfl | rfl | rfl <;> exact Z4 hw (.ld_ _) (fun _ _ _ _ _ _ H => Zlp (VL _ (by decide)) (VM _ H.out.fits) _ _ _ rfl rfl rfl _ rfl H) rfl rfl
theorem ZfZ {m : Tx} {y : Int} {ag : Bool} (hm : MT m y ag false true false) (z c p v : Nat) (hz : Hid (s.r.h * 256 + s.r.l = z)) (hc : Hid (s.r.b * 256 + s.r.c = c)) (s1 : Cs) (hv : Hid (s.m z = v)) (hs1 : Hid (s.rd z = s1)) (hp : Hid (s1.r.d * 256 + s1.r.e = p)) (s2 : Cs) (hs2 : Hid (s1.wr p v = s2)) (q : Nat) (hq : ((p : Int) + y) % 65536 = (q : Int)) (r1 : Rg) (hr1 : Hid (({ s2.r with d := q / 256, e := q % 256 } : Rg) = r1)) (s3 : Cs) (hs3 : Hid (s2.setR r1 = s3)) (d : Nat) (hd : Hid (dn1 c = d)) (r2' : Rg) (hr2' : Hid (({ s3.r with b := d / 256, c := d % 256 } : Rg) = r2')) (s4 : Cs) (hs4 : Hid (s3.setR r2' = s4)) (a f u : Nat) (ha : Hid (s4.r.a = a)) (hf : Hid (s4.r.f = f)) (pp : Bool) (hpp : Hid ((pp = true) ↔ d ≠ 0)) (hu : Hid (Wh a v f pp = u)) (s5 : Cs) (hs5 : Hid (s4.setF u = s5)) (e : Nat) (he : ((z : Int) + y) % 65536 = (e : Int)) (r3 : Rg) (hr3 : Hid (({ s5.r with h := e / 256, l := e % 256 } : Rg) = r3)) (s6 : Cs) (hs6 : Hid (s5.setR r3 = s6)) (g : Nat) (hg0 : Hid (dn1 (dn1 s6.r.pc) = g)) (s7 : Cs) (hs7 : Hid (s6.setPC g = s7)) (gw : Nat) (hgw : Hid (up1 g = gw)) (s8 : Cs) (hs8 : Hid (s7.setWZ gw = s8))  (k : Int) (hk : cond (ag && pp) 21 16 = k) (H : Hid (Ex W0 w x b s tq ix pg l (n + 2))) :
  CX 110 #[.pointer (some ⟨x, 0, none⟩), .string ⟨m.toArray⟩] w (.int .i64 k) fun w' => Hid (Ex W0 w' x b (cond (ag && pp) s8 s6) tq ix pg l n) := by
 have z8 : z < 65536 := by rw [← hz.out]; exact nmHL.lt _ H.out.fits
 have c8 : c < 65536 := by rw [← hc.out]; exact nmBC.lt _ H.out.fits
 have v8 : v < 256 := by rw [← hv.out]; exact Ex.m8 H _
 have p8 : p < 65536 := by rw [← hp.out, ← hs1.out]; exact nmDE.lt _ H.out.fits
 have pw : IntKind.u16.wrap (p : Int) = (p : Int) := by show (p : Int) % 65536 = _; omega
 have hp2 : Hid (s2.r.d * 256 + s2.r.e = p) := Zb (by rw [← hs2.out]; exact hp.out)
 have q8 : q < 65536 := by omega
 obtain ⟨uq, hu1, hu2, hu3, hu4⟩ := zp p y q p8 hm.y3 hq
 have d8 : d < 65536 := by rw [← hd.out]; exact ZP c
 have dw : IntKind.u16.wrap (d : Int) = (d : Int) := by show (d : Int) % 65536 = _; omega
 have hd2 : Hid (s4.r.b * 256 + s4.r.c = d) := Zb (by rw [← hs4.out]; show r2'.b * 256 + r2'.c = d; rw [← hr2'.out]; show d / 256 * 256 + d % 256 = d; omega)
 have hd3 : Hid (s5.r.b * 256 + s5.r.c = d) := Zb (by rw [← hs5.out]; exact hd2.out)
 obtain ⟨uo, ho1, ho2, ho3, ho4⟩ := yS c d c8 hd.out
 have u8' : u < 256 := by rw [← hu.out]; exact yc _ _ _ _
 have a8 : a < 256 := by rw [← ha.out, ← hs4.out, ← hr2'.out, ← hs3.out, ← hr1.out, ← hs2.out, ← hs1.out]; exact H.out.fits.a
 have f8 : f < 256 := by rw [← hf.out, ← hs4.out, ← hr2'.out, ← hs3.out, ← hr1.out, ← hs2.out, ← hs1.out]; exact H.out.fits.f
 have es3 := Zb hs3.out
 have es4 := Zb hs4.out
 have es5 := Zb hs5.out
 have ea := ha.out
 have ef := hf.out
 have gd1 : decide (0 < d) = pp := by have h := hpp.out; cases pp <;> simp at h ⊢ <;> omega
 have gd2 : decide (0 < (d : Int)) = pp := by rw [← gd1]; simp
 have e8 : e < 65536 := by omega
 obtain ⟨ue, he1, he2, he3, he4⟩ := zp z y e z8 hm.y3 he
 have es6 := Zb hs6.out
 have es7 := Zb hs7.out
 have pc8 : s6.r.pc < 65536 := by rw [← hs6.out, ← hr3.out]; exact by rw [← hs5.out, ← hs4.out, ← hr2'.out, ← hs3.out, ← hr1.out, ← hs2.out, ← hs1.out]; exact H.out.fits.pc
 have hg : Hid (wMove s6.r.pc 254 = g) := Zb (by rw [← hg0.out]; show (s6.r.pc + 65534) % 65536 = _; unfold dn1; omega)
 have g8 : g < 65536 := by rw [← hg0.out]; exact ZP _
 have hgw2 : Hid (wMove g 1 = gw) := Zb hgw.out
 have gw8 : gw < 65536 := by rw [← hgw.out]; exact Zy g
 have es8 := Zb hs8.out
 have pc7 : s7.r.pc = g := by rw [← hs7.out]
 clear hq he
 obtain ⟨i, hlen, hl2, hl4, hag⟩ := hm.len
 obtain ⟨L, hLe⟩ : ∃ L : Int, (m.length : Int) = L := ⟨_, rfl⟩
 have HLE := Zb hLe
 have L0 : 2 ≤ L := by omega
 have L1 : L ≤ 4 := by omega
 have HI : Hid (L - 1 = (i : Int)) := by show _ = _; omega
 have HI2 : Hid (i < m.length) := by show _ < _; omega
 have HL2 : Hid (2 ≤ m.length) := hl2
 have y1 := hm.y1
 have y2 := hm.y2
 obtain ⟨ch, hch⟩ : ∃ ch : Int, ((m.getD i 0).toNat : Int) = ch := ⟨_, rfl⟩
 rw [hch] at hag
 obtain ⟨r2, hr2⟩ : ∃ r, m.take 2 = r := ⟨_, rfl⟩
 have hC := hm.cp
 have hL := hm.ld
 rw [hr2] at hC hL
 have HCH := Zb hch
 have HR2 := Zb hr2
 have HW := Zb hm.way
 clear hch hr2 hLe hlen hl2 hl4
 go_enter Tryz.func110, Tryz.ntmps110
 go_upto_region 3 with (first | (refine a53 ?_; clear H; intro w' g1 H) | fail)
 go_loopw [5, 21] (fun y i wr => ∃ (j : Nat) (y0 : Int), j ≤ 8 ∧ i = .int .i64 (j : Int) ∧ y = .int .i64 y0 ∧ Hid (byM m j = y0) ∧ Hid (Ex W0 wr x b s tq ix pg ((g1, 9, strs8) :: l) (n + 2))) (fun _ i _ => 8 - (intOf i).toNat)
 case atStart => exact ⟨0, 1, by omega, rfl, rfl, Zb rfl, H⟩
 case round =>
  clear H
  obtain ⟨j, y0, hj, rfl, rfl, hy0, H⟩ := hrel
  by_cases hlt : j < 8
  ·obtain ⟨t8, ht8⟩ : ∃ t, nm8 j = t := ⟨_, rfl⟩
   exact k9
  ·obtain rfl : j = 8 := by omega
   obtain rfl : y0 = y := hy0.out.symm.trans HW.out
   have H := Zb H.out.drop2
   go_upto_region 21 with (first | refine a1 ?_ | (refine UW (m := m) tStr rfl rfl rfl HLE.out ?_) | (refine Kg (m := m) (k := i) tStr rfl rfl rfl HI.out HI2.out HCH.out rfl ?_) | (refine Ve (m := m) (k := 2) tStr rfl rfl rfl HL2.out HR2.out rfl ?_) | (go_at_call 22; (with_reducible refine (Yq nmHL z hz H).mono ?_); clear H; rintro e w' ⟨rfl, H⟩) | (go_at_call 22; (with_reducible refine (Yq nmBC c hc H).mono ?_); clear H; rintro e w' ⟨rfl, H⟩) | (go_at_call 36; (with_reducible refine (VV z v s1 z8 hv hs1 H).mono ?_); clear H; rintro e w' ⟨rfl, _, H⟩) | fail)
   (refine vl 8 H (by kernel_rfl) (by kernel_rfl) (by kernel_rfl) ?_; simp only [List.take_succ_cons, List.take_zero, List.drop_succ_cons, List.drop_zero]; (try simp only [Act.put, Ze, Zc, Zd]); repeat ((fail_if_success (with_reducible refine wpQuiet_nil ?_)); first | go_big_quiet_skip | (go_big_quiet_want; first | (refine a54 ?_; go_big_quiet_op; go_big_quiet_on) | ((with_reducible apply UV); exact fun w => rfl; (focus (go_simp; all_goals with_reducible rfl)); (intro wq HQ; first | (with_reducible exact Yq nmDE p hp HQ)); go_big_quiet_op; go_big_quiet_on) | (go_big_quiet_op; go_big_quiet_on) | (go_big_quiet_op; refine ⟨_, fun _ _ => rfl, ?_⟩; go_big_quiet_on))))
   refine wpQuiet_nil ?_
   intro w' H'
   clear H; have H := H'; clear H'
   go_upto_region 22 with (first | (go_at_call 59; (with_reducible refine (JJ p v s2 p8 v8 hs2 H).mono ?_); clear H; rintro e w' ⟨rfl, H⟩) | fail)
   go_upto_region 23 with (first | (go_at_call 22; (with_reducible refine (Yq nmDE p hp2 H).mono ?_); clear H; rintro e w' ⟨rfl, H⟩) | (go_at_call 49; (with_reducible refine (Y1 nmDE _ uq q q8 hu1 hu2 hu3 hu4 r1 hr1 H).mono ?_); clear H; rintro e w' ⟨rfl, H⟩) | fail)
   rw [es3.out] at H
   go_upto_region 24 with (first | (go_at_call 49; (with_reducible refine (Y1 nmBC _ uo d d8 ho1 ho2 ho3 ho4 r2' hr2' H).mono ?_); clear H; rintro e w' ⟨rfl, H⟩) | fail)
   rw [es4.out] at H
   (refine vl 19 H (by kernel_rfl) (by kernel_rfl) (by kernel_rfl) ?_; simp only [List.take_succ_cons, List.take_zero, List.drop_succ_cons, List.drop_zero]; (try simp only [Act.put, Ze, Zc, Zd]); repeat ((fail_if_success (with_reducible refine wpQuiet_nil ?_)); first | go_big_quiet_skip | (go_big_quiet_want; first | (refine a54 ?_; go_big_quiet_op; go_big_quiet_on) | ((with_reducible apply UV); exact fun w => rfl; (focus (go_simp; all_goals with_reducible rfl)); (intro wq HQ; first | (with_reducible exact Yq nmBC d hd2 HQ) | (with_reducible exact ZdF HQ (Zfy a v f d u pp f8 a8 v8 hpp hu _))); go_big_quiet_op; go_big_quiet_on) | (go_big_quiet_op; go_big_quiet_on) | (go_big_quiet_op; refine ⟨_, fun _ _ => rfl, ?_⟩; go_big_quiet_on))))
   refine wpQuiet_nil ?_
   intro w' H'
   clear H; have H := H'; clear H'
   go_upto_region 25 with (first | (refine a2 ?_; clear H; intro w' H) | fail)
   rw [es5.out] at H
   go_upto_region 39 with (first | (go_at_call 22; (with_reducible refine (Yq nmBC d hd3 H).mono ?_); clear H; rintro e w' ⟨rfl, H⟩) | fail)
   go_upto_region 40 with (first | (go_at_call 49; (with_reducible refine (Y1 nmHL _ ue e e8 he1 he2 he3 he4 r3 hr3 H).mono ?_); clear H; rintro e w' ⟨rfl, H⟩) | fail)
   rw [es6.out] at H
   cases ag
   ·obtain rfl : (16 : Int) = k := hk
    go_wp2_with fail
    go_ret
    exact ⟨rfl, H⟩
   ·cases pp
    ·obtain rfl : (16 : Int) = k := hk
     go_wp2_with fail
     go_ret
     exact ⟨rfl, H⟩
    ·obtain rfl : (21 : Int) = k := hk
     exact k20
theorem Zf0 {m : Tx} {y : Int} {ag : Bool} (hm : MT m y ag true false false) (z c : Nat) (hz : Hid (s.r.h * 256 + s.r.l = z)) (hc : Hid (s.r.b * 256 + s.r.c = c)) (wz q : Nat) (hwz : Hid (s.r.wz = wz)) (hq : ((wz : Int) + y) % 65536 = (q : Int)) (s1 : Cs) (hs1 : Hid (s.setWZ q = s1)) (d : Nat) (hd : Hid (dn1 c = d)) (r2' : Rg) (hr2' : Hid (({ s1.r with b := d / 256, c := d % 256 } : Rg) = r2')) (s2 : Cs) (hs2 : Hid (s1.setR r2' = s2)) (v : Nat) (s3 : Cs) (hv : Hid (s2.m z = v)) (hs3 : Hid (s2.rd z = s3)) (a f u : Nat) (ha : Hid (s2.r.a = a)) (hf : Hid (s2.r.f = f)) (pp on : Bool) (hpp : Hid ((pp = true) ↔ d ≠ 0)) (hu : Hid (KK a v f pp = u)) (hon : Hid (JM a v pp = on)) (s5 : Cs) (hs5 : Hid (s3.setF u = s5)) (e : Nat) (he : ((z : Int) + y) % 65536 = (e : Int)) (r3 : Rg) (hr3 : Hid (({ s5.r with h := e / 256, l := e % 256 } : Rg) = r3)) (s6 : Cs) (hs6 : Hid (s5.setR r3 = s6)) (g : Nat) (hg0 : Hid (dn1 (dn1 s6.r.pc) = g)) (s7 : Cs) (hs7 : Hid (s6.setPC g = s7)) (gw : Nat) (hgw : Hid (up1 g = gw)) (s8 : Cs) (hs8 : Hid (s7.setWZ gw = s8))  (k : Int) (hk : cond (ag && on) 21 16 = k) (H : Hid (Ex W0 w x b s tq ix pg l (n + 1))) :
  CX 110 #[.pointer (some ⟨x, 0, none⟩), .string ⟨m.toArray⟩] w (.int .i64 k) fun w' => Hid (Ex W0 w' x b (cond (ag && on) s8 s6) tq ix pg l n) := by
 have z8 : z < 65536 := by rw [← hz.out]; exact nmHL.lt _ H.out.fits
 have c8 : c < 65536 := by rw [← hc.out]; exact nmBC.lt _ H.out.fits
 have zw : IntKind.u16.wrap (z : Int) = (z : Int) := by show (z : Int) % 65536 = _; omega
 have cw : IntKind.u16.wrap (c : Int) = (c : Int) := by show (c : Int) % 65536 = _; omega
 have w8 : wz < 65536 := by rw [← hwz.out]; exact H.out.fits.wz
 have q8 : q < 65536 := by omega
 have e5 : ((wz : Int) + y + 65536).tmod 65536 = (q : Int) := by have := hm.y1; rw [Int.tmod_eq_emod_of_nonneg (by omega)]; omega
 have qw : IntKind.u16.wrap (q : Int) = (q : Int) := by show (q : Int) % 65536 = _; omega
 have d8 : d < 65536 := by rw [← hd.out]; exact ZP c
 have dw : IntKind.u16.wrap (d : Int) = (d : Int) := by show (d : Int) % 65536 = _; omega
 have hd2 : Hid (s2.r.b * 256 + s2.r.c = d) := Zb (by rw [← hs2.out]; show r2'.b * 256 + r2'.c = d; rw [← hr2'.out]; show d / 256 * 256 + d % 256 = d; omega)
 have hd4 : Hid (s3.r.b * 256 + s3.r.c = d) := Zb (by rw [← hs3.out]; exact hd2.out)
 obtain ⟨uo, ho1, ho2, ho3, ho4⟩ := yS c d c8 hd.out
 have u8' : u < 256 := by rw [← hu.out]; exact Zm _ _ _ _ _ _ _ _
 have v8 : v < 256 := by rw [← hv.out, ← hs2.out, ← hs1.out]; exact Ex.m8 H _
 have a8 : a < 256 := by rw [← ha.out, ← hs2.out, ← hr2'.out, ← hs1.out]; exact H.out.fits.a
 have f8 : f < 256 := by rw [← hf.out, ← hs2.out, ← hr2'.out, ← hs1.out]; exact H.out.fits.f
 have es1 := Zb hs1.out
 have es2 := Zb hs2.out
 have es5 := Zb hs5.out
 have ewz := hwz.out
 have ha2 := ha
 have hf2 := hf
 have ha3 : Hid (s3.r.a = a) := Zb (by rw [← hs3.out]; exact ha.out)
 have hf3 : Hid (s3.r.f = f) := Zb (by rw [← hs3.out]; exact hf.out)
 have e8 : e < 65536 := by omega
 obtain ⟨ue, he1, he2, he3, he4⟩ := zp z y e z8 hm.y3 he
 have es6 := Zb hs6.out
 have es7 := Zb hs7.out
 have pc8 : s6.r.pc < 65536 := by rw [← hs6.out, ← hr3.out]; exact by rw [← hs5.out, ← hs3.out, ← hs2.out, ← hr2'.out, ← hs1.out]; exact H.out.fits.pc
 have hg : Hid (wMove s6.r.pc 254 = g) := Zb (by rw [← hg0.out]; show (s6.r.pc + 65534) % 65536 = _; unfold dn1; omega)
 have g8 : g < 65536 := by rw [← hg0.out]; exact ZP _
 have hgw2 : Hid (wMove g 1 = gw) := Zb hgw.out
 have gw8 : gw < 65536 := by rw [← hgw.out]; exact Zy g
 have es8 := Zb hs8.out
 have pc7 : s7.r.pc = g := by rw [← hs7.out]
 clear hq he
 obtain ⟨i, hlen, hl2, hl4, hag⟩ := hm.len
 obtain ⟨L, hLe⟩ : ∃ L : Int, (m.length : Int) = L := ⟨_, rfl⟩
 have HLE := Zb hLe
 have L0 : 2 ≤ L := by omega
 have L1 : L ≤ 4 := by omega
 have HI : Hid (L - 1 = (i : Int)) := by show _ = _; omega
 have HI2 : Hid (i < m.length) := by show _ < _; omega
 have HL2 : Hid (2 ≤ m.length) := hl2
 have y1 := hm.y1
 have y2 := hm.y2
 obtain ⟨ch, hch⟩ : ∃ ch : Int, ((m.getD i 0).toNat : Int) = ch := ⟨_, rfl⟩
 rw [hch] at hag
 obtain ⟨r2, hr2⟩ : ∃ r, m.take 2 = r := ⟨_, rfl⟩
 have hC := hm.cp
 have hL := hm.ld
 rw [hr2] at hC hL
 have HCH := Zb hch
 have HR2 := Zb hr2
 have HW := Zb hm.way
 clear hch hr2 hLe hlen hl2 hl4
 go_enter Tryz.func110, Tryz.ntmps110
 go_upto_region 3 with (first | (refine a53 ?_; clear H; intro w' g1 H) | fail)
 go_loopw [5, 21] (fun y i wr => ∃ (j : Nat) (y0 : Int), j ≤ 8 ∧ i = .int .i64 (j : Int) ∧ y = .int .i64 y0 ∧ Hid (byM m j = y0) ∧ Hid (Ex W0 wr x b s tq ix pg ((g1, 9, strs8) :: l) (n + 1))) (fun _ i _ => 8 - (intOf i).toNat)
 case atStart => exact ⟨0, 1, by omega, rfl, rfl, Zb rfl, H⟩
 case round =>
  clear H
  obtain ⟨j, y0, hj, rfl, rfl, hy0, H⟩ := hrel
  by_cases hlt : j < 8
  ·obtain ⟨t8, ht8⟩ : ∃ t, nm8 j = t := ⟨_, rfl⟩
   exact k9
  ·obtain rfl : j = 8 := by omega
   obtain rfl : y0 = y := hy0.out.symm.trans HW.out
   have H := Zb H.out.drop2
   go_upto_region 27 with (first | refine a1 ?_ | (refine UW (m := m) tStr rfl rfl rfl HLE.out ?_) | (refine Kg (m := m) (k := i) tStr rfl rfl rfl HI.out HI2.out HCH.out rfl ?_) | (refine Ve (m := m) (k := 2) tStr rfl rfl rfl HL2.out HR2.out rfl ?_) | (go_at_call 22; (with_reducible refine (Yq nmHL z hz H).mono ?_); clear H; rintro e w' ⟨rfl, H⟩) | (go_at_call 22; (with_reducible refine (Yq nmBC c hc H).mono ?_); clear H; rintro e w' ⟨rfl, H⟩) | fail)
   go_upto_region 28 with (first | refine a1 ?_ | (refine a2 ?_; clear H; intro w' H) | fail)
   rw [es1.out] at H
   go_upto_region 29 with (first | (go_at_call 49; (with_reducible refine (Y1 nmBC _ uo d d8 ho1 ho2 ho3 ho4 r2' hr2' H).mono ?_); clear H; rintro e w' ⟨rfl, H⟩) | fail)
   rw [es2.out] at H
   have H := Zb H.out.drew
   have c0 := Ex.cell H 0 _ rfl
   have c1 := Ex.cell H 1 _ rfl
   have c29 := Ex.cell H 29 _ rfl
   rw [show s2.r.a = a from ha.out] at c0
   rw [show s2.r.f = f from hf.out] at c1
   go_region_held3 (fun w' => w'.cell? ⟨x, 0, none⟩ = some (.int .u8 (a : Int)) ∧ w'.cell? ⟨x, 1, none⟩ = some (.int .u8 (f : Int)) ∧ w'.cell? ⟨x, 29, none⟩ = some (.pointer (some ⟨b, 0, none⟩))) (first | assumption | (simp only [*]; trivial) | simp [*]) (first | (go_at_call 36; (try rw [zw]); (with_reducible refine (VV z v s3 z8 hv hs3 H).mono ?_); clear H; rintro e w' ⟨rfl, _, H⟩; have d0 : w'.cell? ⟨x, 0, none⟩ = some (.int .u8 (a : Int)) := (by have hh := Ex.cell H 0 _ rfl; rw [show s3.r.a = _ from ha3.out] at hh; exact hh); have d1 : w'.cell? ⟨x, 1, none⟩ = some (.int .u8 (f : Int)) := (by have hh := Ex.cell H 1 _ rfl; rw [show s3.r.f = _ from hf3.out] at hh; exact hh); have dw : w'.cell? ⟨x, 29, none⟩ = some (.pointer (some ⟨b, 0, none⟩)) := Ex.cell H 29 _ rfl) | (go_at_call 22; (with_reducible refine (Yq nmBC d hd2 H).mono ?_); clear H; rintro e w' ⟨rfl, H⟩; have e0 : w'.cell? ⟨x, 0, none⟩ = some (.int .u8 (a : Int)) := (by have hh := Ex.cell H 0 _ rfl; rw [show s2.r.a = _ from ha2.out] at hh; exact hh); have e1 : w'.cell? ⟨x, 1, none⟩ = some (.int .u8 (f : Int)) := (by have hh := Ex.cell H 1 _ rfl; rw [show s2.r.f = _ from hf2.out] at hh; exact hh); have ew : w'.cell? ⟨x, 29, none⟩ = some (.pointer (some ⟨b, 0, none⟩)) := Ex.cell H 29 _ rfl) | (go_at_call 22; (with_reducible refine (Yq nmBC d hd4 H).mono ?_); clear H; rintro e w' ⟨rfl, H⟩; have k0 : w'.cell? ⟨x, 0, none⟩ = some (.int .u8 (a : Int)) := (by have hh := Ex.cell H 0 _ rfl; rw [show s3.r.a = _ from ha3.out] at hh; exact hh); have k1 : w'.cell? ⟨x, 1, none⟩ = some (.int .u8 (f : Int)) := (by have hh := Ex.cell H 1 _ rfl; rw [show s3.r.f = _ from hf3.out] at hh; exact hh); have kw : w'.cell? ⟨x, 29, none⟩ = some (.pointer (some ⟨b, 0, none⟩)) := Ex.cell H 29 _ rfl) | (go_at_call 175; (try rw [dw]); (with_reducible refine (Zfz a v f d u pp on a8 v8 f8 hpp hu hon _).mono ?_); rintro e w' ⟨rfl, hb⟩; replace H := Zb (H.out.call hb); clear hb; have j0 : w'.cell? ⟨x, 0, none⟩ = some (.int .u8 (a : Int)) := (by have hh := Ex.cell H 0 _ rfl; rw [show s3.r.a = _ from ha3.out] at hh; exact hh); have j1 : w'.cell? ⟨x, 1, none⟩ = some (.int .u8 (f : Int)) := (by have hh := Ex.cell H 1 _ rfl; rw [show s3.r.f = _ from hf3.out] at hh; exact hh); have jw : w'.cell? ⟨x, 29, none⟩ = some (.pointer (some ⟨b, 0, none⟩)) := Ex.cell H 29 _ rfl))
   go_upto_region 31 with (first | refine a1 ?_ | (refine a2 ?_; clear H; intro w' H) | fail)
   rw [es5.out] at H
   go_upto_region 39 with (first | fail)
   go_upto_region 40 with (first | (go_at_call 49; (with_reducible refine (Y1 nmHL _ ue e e8 he1 he2 he3 he4 r3 hr3 H).mono ?_); clear H; rintro e w' ⟨rfl, H⟩) | fail)
   rw [es6.out] at H
   cases ag
   ·obtain rfl : (16 : Int) = k := hk
    go_wp2_with fail
    go_ret
    exact ⟨rfl, H⟩
   ·cases on
    ·obtain rfl : (16 : Int) = k := hk
     go_wp2_with fail
     go_ret
     exact ⟨rfl, H⟩
    ·obtain rfl : (21 : Int) = k := hk
     exact k20
theorem Zf1 {m : Tx} {y : Int} {ag : Bool} (hm : MT m y ag false false true) (z c : Nat) (hz : Hid (s.r.h * 256 + s.r.l = z)) (hc : Hid (s.r.b * 256 + s.r.c = c)) (q : Nat) (hq : ((c : Int) + y) % 65536 = (q : Int)) (s1 : Cs) (hs1 : Hid (s.setWZ q = s1)) (v : Nat) (s2 : Cs) (hv : Hid (s1.ipV c 13 = v)) (hs2 : Hid (s1.ip c 13 = s2)) (s3 : Cs) (hs3 : Hid (s2.wr z v = s3)) (b0 bb : Nat) (hb0 : Hid (s3.r.b = b0)) (hbb : Hid ((b0 + 255) % 256 = bb)) (rb : Rg) (hrb : Hid (({ s3.r with b := bb } : Rg) = rb)) (s4 : Cs) (hs4 : Hid (s3.setR rb = s4)) (cc mm u : Nat) (hcc : Hid (s4.r.c = cc)) (hmm : ((cc : Int) + y) % 256 = (mm : Int)) (hu : Hid (Ku v mm bb = u)) (on : Bool) (hon : Hid ((on = true) ↔ bb ≠ 0)) (s5 : Cs) (hs5 : Hid (s4.setF u = s5)) (e : Nat) (he : ((z : Int) + y) % 65536 = (e : Int)) (r3 : Rg) (hr3 : Hid (({ s5.r with h := e / 256, l := e % 256 } : Rg) = r3)) (s6 : Cs) (hs6 : Hid (s5.setR r3 = s6)) (g : Nat) (hg0 : Hid (dn1 (dn1 s6.r.pc) = g)) (s7 : Cs) (hs7 : Hid (s6.setPC g = s7))  (k : Int) (hk : cond (ag && on) 21 16 = k) (H : Hid (Ex W0 w x b s tq ix pg l (n + 2))) :
  CX 110 #[.pointer (some ⟨x, 0, none⟩), .string ⟨m.toArray⟩] w (.int .i64 k) fun w' => Hid (Ex W0 w' x b (cond (ag && on) s7 s6) tq ix pg l n) := by
 have z8 : z < 65536 := by rw [← hz.out]; exact nmHL.lt _ H.out.fits
 have c8 : c < 65536 := by rw [← hc.out]; exact nmBC.lt _ H.out.fits
 have zw : IntKind.u16.wrap (z : Int) = (z : Int) := by show (z : Int) % 65536 = _; omega
 have cw : IntKind.u16.wrap (c : Int) = (c : Int) := by show (c : Int) % 65536 = _; omega
 have q8 : q < 65536 := by omega
 have e5 : ((c : Int) + y + 65536).tmod 65536 = (q : Int) := by have := hm.y1; rw [Int.tmod_eq_emod_of_nonneg (by omega)]; omega
 have qw : IntKind.u16.wrap (q : Int) = (q : Int) := by show (q : Int) % 65536 = _; omega
 have v8 : v < 256 := by rw [← hv.out]; exact Nat.mod_lt _ (by decide)
 have b8 : b0 < 256 := by rw [← hb0.out, ← hs3.out, ← hs2.out, ← hs1.out]; exact H.out.fits.b
 have bb8 : bb < 256 := by have := hbb.out; omega
 have e6 : ((b0 : Int) + 255).tmod 256 = (bb : Int) := by have := hbb.out; rw [Int.tmod_eq_emod_of_nonneg (by omega)]; omega
 have cc8 : cc < 256 := by rw [← hcc.out, ← hs4.out, ← hrb.out, ← hs3.out, ← hs2.out, ← hs1.out]; exact H.out.fits.c
 have mm8 : mm < 256 := by omega
 have e7 : ((cc : Int) + y + 256).tmod 256 = (mm : Int) := by have := hm.y1; rw [Int.tmod_eq_emod_of_nonneg (by omega)]; omega
 have mw : IntKind.u8.wrap (mm : Int) = (mm : Int) := by rw [IntKind.wrap_u8]; omega
 have u8' : u < 256 := by rw [← hu.out]; exact Zm _ _ _ _ _ _ _ _
 have eb : s4.r.b = bb := by rw [← hs4.out, ← hrb.out]
 have eb5 : s5.r.b = bb := by rw [← hs5.out]; exact eb
 have es1 := Zb hs1.out
 have es4 := Zb hs4.out
 have es5 := Zb hs5.out
 have gd1 : decide (0 < bb) = on := by have h := hon.out; cases on <;> simp at h ⊢ <;> omega
 have gd2 : decide (0 < (bb : Int)) = on := by rw [← gd1]; simp
 clear hmm
 obtain ⟨c0, hc0⟩ : ∃ c0 : Int, ((m.getD 0 0).toNat : Int) = c0 := ⟨_, rfl⟩
 have hI := hm.fst
 rw [hc0] at hI
 have HC0 := Zb hc0
 have HI0 : Hid (0 < m.length) := by obtain ⟨i, h1, -⟩ := hm.len; show 0 < m.length; omega
 clear hc0
 have e8 : e < 65536 := by omega
 obtain ⟨ue, he1, he2, he3, he4⟩ := zp z y e z8 hm.y3 he
 have es6 := Zb hs6.out
 have es7 := Zb hs7.out
 have pc8 : s6.r.pc < 65536 := by rw [← hs6.out, ← hr3.out]; exact by rw [← hs5.out, ← hs4.out, ← hrb.out, ← hs3.out, ← hs2.out, ← hs1.out]; exact H.out.fits.pc
 have hg : Hid (wMove s6.r.pc 254 = g) := Zb (by rw [← hg0.out]; show (s6.r.pc + 65534) % 65536 = _; unfold dn1; omega)
 have g8 : g < 65536 := by rw [← hg0.out]; exact ZP _
 clear hq he
 obtain ⟨i, hlen, hl2, hl4, hag⟩ := hm.len
 obtain ⟨L, hLe⟩ : ∃ L : Int, (m.length : Int) = L := ⟨_, rfl⟩
 have HLE := Zb hLe
 have L0 : 2 ≤ L := by omega
 have L1 : L ≤ 4 := by omega
 have HI : Hid (L - 1 = (i : Int)) := by show _ = _; omega
 have HI2 : Hid (i < m.length) := by show _ < _; omega
 have HL2 : Hid (2 ≤ m.length) := hl2
 have y1 := hm.y1
 have y2 := hm.y2
 obtain ⟨ch, hch⟩ : ∃ ch : Int, ((m.getD i 0).toNat : Int) = ch := ⟨_, rfl⟩
 rw [hch] at hag
 obtain ⟨r2, hr2⟩ : ∃ r, m.take 2 = r := ⟨_, rfl⟩
 have hC := hm.cp
 have hL := hm.ld
 rw [hr2] at hC hL
 have HCH := Zb hch
 have HR2 := Zb hr2
 have HW := Zb hm.way
 clear hch hr2 hLe hlen hl2 hl4
 go_enter Tryz.func110, Tryz.ntmps110
 go_upto_region 3 with (first | (refine a53 ?_; clear H; intro w' g1 H) | fail)
 go_loopw [5, 21] (fun y i wr => ∃ (j : Nat) (y0 : Int), j ≤ 8 ∧ i = .int .i64 (j : Int) ∧ y = .int .i64 y0 ∧ Hid (byM m j = y0) ∧ Hid (Ex W0 wr x b s tq ix pg ((g1, 9, strs8) :: l) (n + 2))) (fun _ i _ => 8 - (intOf i).toNat)
 case atStart => exact ⟨0, 1, by omega, rfl, rfl, Zb rfl, H⟩
 case round =>
  clear H
  obtain ⟨j, y0, hj, rfl, rfl, hy0, H⟩ := hrel
  by_cases hlt : j < 8
  ·obtain ⟨t8, ht8⟩ : ∃ t, nm8 j = t := ⟨_, rfl⟩
   exact k9
  ·obtain rfl : j = 8 := by omega
   obtain rfl : y0 = y := hy0.out.symm.trans HW.out
   have H := Zb H.out.drop2
   go_upto_region 33 with (first | refine a1 ?_ | (refine UW (m := m) tStr rfl rfl rfl HLE.out ?_) | (refine Kg (m := m) (k := i) tStr rfl rfl rfl HI.out HI2.out HCH.out rfl ?_) | (refine Ve (m := m) (k := 2) tStr rfl rfl rfl HL2.out HR2.out rfl ?_) | (refine Kg (m := m) (k := 0) tStr rfl rfl rfl rfl HI0.out HC0.out rfl ?_) | (go_at_call 22; (with_reducible refine (Yq nmHL z hz H).mono ?_); clear H; rintro e w' ⟨rfl, H⟩) | (go_at_call 22; (with_reducible refine (Yq nmBC c hc H).mono ?_); clear H; rintro e w' ⟨rfl, H⟩) | fail)
   go_upto_region 34 with (first | refine a1 ?_ | (refine a2 ?_; clear H; intro w' H) | fail)
   rw [es1.out] at H
   go_upto_region 35 with (first | refine a1 ?_ | (go_at_call 103; (with_reducible refine (ZlO c v s2 c8 hv hs2 H).mono ?_); clear H; rintro e w' ⟨rfl, _, H⟩) | fail)
   go_upto_region 36 with (first | refine a1 ?_ | (go_at_call 59; (with_reducible refine (JJ z v s3 z8 v8 hs3 H).mono ?_); clear H; rintro e w' ⟨rfl, H⟩) | fail)
   go_upto_region 37 with (first | (go_at_call 22; (with_reducible refine (Yq nmB b0 hb0 H).mono ?_); clear H; rintro e w' ⟨rfl, H⟩) | (go_at_call 49; (with_reducible refine (Z1 nmB bb bb8 rb hrb H).mono ?_); clear H; rintro e w' ⟨rfl, H⟩) | fail)
   rw [es4.out] at H
   (refine vl 18 H (by kernel_rfl) (by kernel_rfl) (by kernel_rfl) ?_; simp only [List.take_succ_cons, List.take_zero, List.drop_succ_cons, List.drop_zero]; (try simp only [Act.put, Ze, Zc, Zd]); repeat ((fail_if_success (with_reducible refine wpQuiet_nil ?_)); first | go_big_quiet_skip | (go_big_quiet_want; first | (refine a54 ?_; go_big_quiet_op; go_big_quiet_on) | ((with_reducible apply UV); exact fun w => rfl; (focus (go_simp; all_goals with_reducible rfl)); (intro wq HQ; first | (with_reducible exact Yq nmC cc hcc HQ) | ((try rw [eb]); (with_reducible exact ZdF HQ (ve v mm bb u v8 mm8 bb8 hu _)))); go_big_quiet_op; go_big_quiet_on) | (go_big_quiet_op; go_big_quiet_on) | (go_big_quiet_op; refine ⟨_, fun _ _ => rfl, ?_⟩; go_big_quiet_on))))
   refine wpQuiet_nil ?_
   intro w' H'
   clear H; have H := H'; clear H'
   go_upto_region 38 with (first | (refine a2 ?_; clear H; intro w' H) | fail)
   exact k15
end
end Go.Proofs.YtgdeeiimkhjfiaaGreatDoor
