import Derived.Test.YtgdeeiimkhjfiaaGreatDoorV39
set_option maxRecDepth 100000
set_option maxHeartbeats 6400000
namespace Go.Proofs.YtgdeeiimkhjfiaaGreatDoor
open Go.RowKit
section
variable {W0 w : World} {x b tq n c : Nat} {s : Cs} {ix : Bool} {pg : Int} {l : Zj}
theorem ZdK {m : Tx} {y : Int} {ag : Bool} (hm : MT m y ag false false false) (z c : Nat) (hz : Hid (s.r.h * 256 + s.r.l = z)) (hc : Hid (s.r.b * 256 + s.r.c = c)) (v : Nat) (s1 : Cs) (hv : Hid (s.m z = v)) (hs1 : Hid (s.rd z = s1)) (b0 bb : Nat) (hb0 : Hid (s1.r.b = b0)) (hbb : Hid ((b0 + 255) % 256 = bb)) (rb : Rg) (hrb : Hid (({ s1.r with b := bb } : Rg) = rb)) (s2 : Cs) (hs2 : Hid (s1.setR rb = s2)) (c2 : Nat) (hc2 : Hid (s2.r.b * 256 + s2.r.c = c2)) (s3 : Cs) (hs3 : Hid (s2.op c2 v 13 = s3)) (q : Nat) (hq : ((c2 : Int) + y) % 65536 = (q : Int)) (s4 : Cs) (hs4 : Hid (s3.setWZ q = s4)) (mm u : Nat) (hmm : ((z : Int) + y) % 256 = (mm : Int)) (hu : Hid (Ku v mm bb = u)) (on : Bool) (hon : Hid ((on = true) ↔ bb ≠ 0)) (s5 : Cs) (hs5 : Hid (s4.setF u = s5)) (e : Nat) (he : ((z : Int) + y) % 65536 = (e : Int)) (r3 : Rg) (hr3 : Hid (({ s5.r with h := e / 256, l := e % 256 } : Rg) = r3)) (s6 : Cs) (hs6 : Hid (s5.setR r3 = s6)) (g : Nat) (hg0 : Hid (dn1 (dn1 s6.r.pc) = g)) (s7 : Cs) (hs7 : Hid (s6.setPC g = s7))  (k : Int) (hk : cond (ag && on) 21 16 = k) (H : Hid (Ex W0 w x b s tq ix pg l (n + 2))) :
  CX 110 #[.pointer (some ⟨x, 0, none⟩), .string ⟨m.toArray⟩] w (.int .i64 k) fun w' => Hid (Ex W0 w' x b (cond (ag && on) s7 s6) tq ix pg l n) := by
 have z8 : z < 65536 := by rw [← hz.out]; exact nmHL.lt _ H.out.fits
 have c8 : c < 65536 := by rw [← hc.out]; exact nmBC.lt _ H.out.fits
 have zw : IntKind.u16.wrap (z : Int) = (z : Int) := by show (z : Int) % 65536 = _; omega
 have cw : IntKind.u16.wrap (c : Int) = (c : Int) := by show (c : Int) % 65536 = _; omega
 have v8 : v < 256 := by rw [← hv.out]; exact Ex.m8 H _
 have b8 : b0 < 256 := by rw [← hb0.out, ← hs1.out]; exact H.out.fits.b
 have bb8 : bb < 256 := by have := hbb.out; omega
 have e6 : ((b0 : Int) + 255).tmod 256 = (bb : Int) := by have := hbb.out; rw [Int.tmod_eq_emod_of_nonneg (by omega)]; omega
 have c28 : c2 < 65536 := by
  rw [← hc2.out, ← hs2.out, ← hrb.out]
  show bb * 256 + s1.r.c < 65536
  have h1 : s1.r.c < 256 := by rw [← hs1.out]; exact H.out.fits.c
  omega
 have c2w : IntKind.u16.wrap (c2 : Int) = (c2 : Int) := by show (c2 : Int) % 65536 = _; omega
 have hc3 : Hid (s3.r.b * 256 + s3.r.c = c2) := Zb (by rw [← hs3.out]; exact hc2.out)
 have q8 : q < 65536 := by omega
 have e5 : ((c2 : Int) + y + 65536).tmod 65536 = (q : Int) := by have := hm.y1; rw [Int.tmod_eq_emod_of_nonneg (by omega)]; omega
 have qw : IntKind.u16.wrap (q : Int) = (q : Int) := by show (q : Int) % 65536 = _; omega
 have mm8 : mm < 256 := by omega
 have e7 : ((z : Int) + y + 65536).tmod 256 = (mm : Int) := by have := hm.y1; rw [Int.tmod_eq_emod_of_nonneg (by omega)]; omega
 have mw : IntKind.u8.wrap (mm : Int) = (mm : Int) := by rw [IntKind.wrap_u8]; omega
 have u8' : u < 256 := by rw [← hu.out]; exact Zm _ _ _ _ _ _ _ _
 have eb : s4.r.b = bb := by rw [← hs4.out, ← hs3.out, ← hs2.out, ← hrb.out]
 have eb5 : s5.r.b = bb := by rw [← hs5.out]; exact eb
 have es2 := Zb hs2.out
 have es4 := Zb hs4.out
 have es5 := Zb hs5.out
 have gd1 : decide (0 < bb) = on := by have h := hon.out; cases on <;> simp at h ⊢ <;> omega
 have gd2 : decide (0 < (bb : Int)) = on := by rw [← gd1]; simp
 clear hmm
 obtain ⟨c0, hc0⟩ : ∃ c0 : Int, ((m.getD 0 0).toNat : Int) = c0 := ⟨_, rfl⟩
 have hI := hm.fst
 rw [hc0] at hI
 have HC0 := Zb hc0
 have HI0 : Hid (0 < m.length) := by obtain ⟨i, h1, -⟩ := hm.len; show 0 < m.length; omega
 clear hc0
 have e8 : e < 65536 := by omega
 obtain ⟨ue, he1, he2, he3, he4⟩ := zp z y e z8 hm.y3 he
 have es6 := Zb hs6.out
 have es7 := Zb hs7.out
 have pc8 : s6.r.pc < 65536 := by rw [← hs6.out, ← hr3.out]; exact by rw [← hs5.out, ← hs4.out, ← hs3.out, ← hs2.out, ← hrb.out, ← hs1.out]; exact H.out.fits.pc
 have hg : Hid (wMove s6.r.pc 254 = g) := Zb (by rw [← hg0.out]; show (s6.r.pc + 65534) % 65536 = _; unfold dn1; omega)
 have g8 : g < 65536 := by rw [← hg0.out]; exact ZP _
 clear hq he
 obtain ⟨i, hlen, hl2, hl4, hag⟩ := hm.len
 obtain ⟨L, hLe⟩ : ∃ L : Int, (m.length : Int) = L := ⟨_, rfl⟩
 have HLE := Zb hLe
 have L0 : 2 ≤ L := by omega
 have L1 : L ≤ 4 := by omega
 have HI : Hid (L - 1 = (i : Int)) := by show _ = _; omega
 have HI2 : Hid (i < m.length) := by show _ < _; omega
 have HL2 : Hid (2 ≤ m.length) := hl2
 have y1 := hm.y1
 have y2 := hm.y2
 obtain ⟨ch, hch⟩ : ∃ ch : Int, ((m.getD i 0).toNat : Int) = ch := ⟨_, rfl⟩
 rw [hch] at hag
 obtain ⟨r2, hr2⟩ : ∃ r, m.take 2 = r := ⟨_, rfl⟩
 have hC := hm.cp
 have hL := hm.ld
 rw [hr2] at hC hL
 have HCH := Zb hch
 have HR2 := Zb hr2
 have HW := Zb hm.way
 clear hch hr2 hLe hlen hl2 hl4
 go_enter Tryz.func110, Tryz.ntmps110
 go_upto_region 3 with (first | (refine a53 ?_; clear H; intro w' g1 H) | fail)
 go_loopw [5, 21] (fun y i wr => ∃ (j : Nat) (y0 : Int), j ≤ 8 ∧ i = .int .i64 (j : Int) ∧ y = .int .i64 y0 ∧ Hid (byM m j = y0) ∧ Hid (Ex W0 wr x b s tq ix pg ((g1, 9, strs8) :: l) (n + 2))) (fun _ i _ => 8 - (intOf i).toNat)
 case atStart => exact ⟨0, 1, by omega, rfl, rfl, Zb rfl, H⟩
 case round =>
  clear H
  obtain ⟨j, y0, hj, rfl, rfl, hy0, H⟩ := hrel
  by_cases hlt : j < 8
  ·obtain ⟨t8, ht8⟩ : ∃ t, nm8 j = t := ⟨_, rfl⟩
   exact k9
  ·obtain rfl : j = 8 := by omega
   obtain rfl : y0 = y := hy0.out.symm.trans HW.out
   have H := Zb H.out.drop2
   go_upto_region 14 with (first | refine a1 ?_ | (refine UW (m := m) tStr rfl rfl rfl HLE.out ?_) | (refine Kg (m := m) (k := i) tStr rfl rfl rfl HI.out HI2.out HCH.out rfl ?_) | (refine Ve (m := m) (k := 2) tStr rfl rfl rfl HL2.out HR2.out rfl ?_) | (refine Kg (m := m) (k := 0) tStr rfl rfl rfl rfl HI0.out HC0.out rfl ?_) | (go_at_call 22; (with_reducible refine (Yq nmHL z hz H).mono ?_); clear H; rintro e w' ⟨rfl, H⟩) | (go_at_call 22; (with_reducible refine (Yq nmBC c hc H).mono ?_); clear H; rintro e w' ⟨rfl, H⟩) | (go_at_call 36; (with_reducible refine (VV z v s1 z8 hv hs1 H).mono ?_); clear H; rintro e w' ⟨rfl, _, H⟩) | fail)
   go_upto_region 15 with (first | (go_at_call 22; (with_reducible refine (Yq nmB b0 hb0 H).mono ?_); clear H; rintro e w' ⟨rfl, H⟩) | (go_at_call 49; (with_reducible refine (Z1 nmB bb bb8 rb hrb H).mono ?_); clear H; rintro e w' ⟨rfl, H⟩) | fail)
   rw [es2.out] at H
   (refine vl 8 H (by kernel_rfl) (by kernel_rfl) (by kernel_rfl) ?_; simp only [List.take_succ_cons, List.take_zero, List.drop_succ_cons, List.drop_zero]; (try simp only [Act.put, Ze, Zc, Zd]); repeat ((fail_if_success (with_reducible refine wpQuiet_nil ?_)); first | go_big_quiet_skip | (go_big_quiet_want; first | (refine a54 ?_; go_big_quiet_op; go_big_quiet_on) | ((with_reducible apply UV); exact fun w => rfl; (focus (go_simp; all_goals with_reducible rfl)); (intro wq HQ; first | (with_reducible exact Yq nmBC c2 hc2 HQ)); go_big_quiet_op; go_big_quiet_on) | (go_big_quiet_op; go_big_quiet_on) | (go_big_quiet_op; refine ⟨_, fun _ _ => rfl, ?_⟩; go_big_quiet_on))))
   refine wpQuiet_nil ?_
   intro w' H'
   clear H; have H := H'; clear H'
   go_upto_region 16 with (first | (go_at_call 102; (with_reducible refine (Zi5 c2 v s3 c28 v8 hs3 H).mono ?_); clear H; rintro e w' ⟨rfl, H⟩) | fail)
   go_upto_region 17 with (first | refine a1 ?_ | (refine a2 ?_; clear H; intro w' H) | (go_at_call 22; (with_reducible refine (Yq nmBC c2 hc3 H).mono ?_); clear H; rintro e w' ⟨rfl, H⟩) | fail)
   rw [es4.out] at H
   go_upto_region 18 with (first | refine a1 ?_ | (refine a2 ?_; clear H; intro w' H) | (go_at_call 176; (try rw [eb]); (with_reducible refine (ve v mm bb u v8 mm8 bb8 hu _).mono ?_); rintro e w' ⟨rfl, hb⟩; replace H := Zb (H.out.call hb); clear hb) | fail)
   exact k15
def bpg (q : Nat) : Int := if q = 0 then 1 else if q = 221 then 5 else 6
def W3 (t hd : Tx) (q : List Tx) : Bool := decide (t.length ≤ 24) && decide (Zl t 32 = [hd, sg (Zl t 32) 1]) && decide ((sg (Zl t 32) 1).length ≤ 100) && decide (Zl (sg (Zl t 32) 1) 44 = q)
theorem W3.out {t hd : Tx} {q : List Tx} (h : W3 t hd q = true) : t.length ≤ 24 ∧ ∃ w1, Zl t 32 = [hd, w1] ∧ w1.length ≤ 100 ∧ Zl w1 44 = q := by
 unfold W3 at h
 simp only [Bool.and_eq_true, decide_eq_true_eq] at h
 obtain ⟨⟨⟨h1, h2⟩, h3⟩, h4⟩ := h
 exact ⟨h1, _, h2, h3, h4⟩
theorem ZgP {t hd : Tx} {q : List Tx} {page : Int} {m : Nat} {vs : List Value} {s s' E : Cs} {tq tq' k : Nat} {ix ix' : Bool} {c C : Int} (h : W3 t hd q = true) (hq1 : 1 ≤ q.length) (hq3 : q.length ≤ 3) (T : Two t (sg q 0) (sg q 1) page hd m vs)
  (D : ∀ w1, Zl t 32 = [hd, w1] → w1.length ≤ 100 → Zl w1 44 = q → zn m vs s tq ix page k c s' tq' ix') (ec : c = C) (es : s' = E) : Zg t page s tq ix k C E := fun W0 w x b n pg l H => by
 subst ec es
 obtain ⟨h1, w1, h2, h3, h4⟩ := W3.out h
 exact (vg t hd w1 (by omega) page h2 h3 q h4 hq1 hq3 _ _ rfl rfl m vs T k c s' tq' ix' (D w1 h2 h3 h4) H).mono fun _ _ ⟨a, b⟩ => ⟨a, _, _, b⟩
section
variable {s : Cs} {tq : Nat} {ix : Bool} {pg : Int}
theorem ZdL (z q : Nat) (hz : z ≤ 7 ∧ z ≠ 6) (hq : Q3 q) : Kh (leT z q) s tq ix pg (s.r.one z q) s := fun _ _ _ _ _ _ H =>
 have h := YJ z q hz hq
 (Kb (Nm.ofLet z q hz) (h _ (by decide)) (h _ (by decide)) (h _ (by decide)) (h _ (by decide)) (h _ (by decide)) (h _ (by decide)) _ rfl (Ex.fewer H (Nat.le_succ _))).mono fun _ _ ⟨a, _, b⟩ => ⟨a, b⟩
theorem zt (q : Nat) (hq : Q3 q) (ht : tq < 65536) : Kh (meT q) s tq ix pg (s.m tq) (s.rd tq) := fun _ _ _ _ _ _ H =>
 (Jm (meT q) (VL q hq) _ _ ht rfl rfl H).mono fun _ _ ⟨a, _, b⟩ => ⟨a, b⟩
theorem ZdM (z q : Nat) (hz : z ≤ 7 ∧ z ≠ 6) (hq : Q3 q) : VJ (leT z q) false := fun w =>
 have h := YJ z q hz hq
 YW _ (h _ (by decide)) (h _ (by decide)) (h _ (by decide)) w
theorem zu (q : Nat) (hq : Q3 q) : VJ (meT q) true := fun w => Zlk _ (VL q hq) w
theorem ZdN (z q : Nat) (hz : z ≤ 7 ∧ z ≠ 6) (hq : Q3 q) (a b c : Int) : zq (leT z q) ix a b c a := fun _ _ _ _ _ _ _ _ _ H =>
 have h := YJ z q hz hq
 Uc _ a b c (h _ (by decide)) (h _ (by decide)) (h _ (by decide)) H
theorem zv (q : Nat) (hq : Q3 q) (a b c : Int) : zq (meT q) ix a b c (cond ix c b) := fun _ _ _ _ _ _ _ _ _ H => JR _ (VL q hq) a b c _ rfl H
theorem vp (z q u : Nat) (hz : z ≤ 7 ∧ z ≠ 6) (hq : Q3 q) (hu : u < 256) : Je (leT z q) u s tq ix pg (s.setR (s.r.setOne z q u)) := fun _ _ _ _ _ _ H =>
 have h := YJ z q hz hq
 Zkf (Nm.ofLet z q hz) (h _ (by decide)) (h _ (by decide)) (h _ (by decide)) (h _ (by decide)) (h _ (by decide)) (h _ (by decide)) u hu _ rfl (Ex.fewer H (Nat.le_succ _))
theorem vq (q u : Nat) (hq : Q3 q) (ht : tq < 65536) (hu : u < 256) : Je (meT q) u s tq ix pg (s.wr tq u) := fun _ _ _ _ _ _ H => Kc _ (VL q hq) u _ ht hu rfl H
end
def st2 (a b c : Cs) : Nat → Cs
 | 0 => a
 | 1 => b
 | _ => c
theorem vr {A : Tx} {u tq : Nat} {a b c : Cs} (h : Je A u a tq ix pg b) : ∀ j, j < [A].length → Je (sg [A] j) u (st2 a b c j) tq ix pg (st2 a b c (j + 1)) := fun j hj => by
 obtain rfl : j = 0 := by simp at hj; omega
 exact h
theorem ZgQ {A B : Tx} {u tq : Nat} {a b c : Cs} (h : Je A u a tq ix pg b) (h' : Je B u b tq ix pg c) : ∀ j, j < [A, B].length → Je (sg [A, B] j) u (st2 a b c j) tq ix pg (st2 a b c (j + 1)) := fun j hj => by
 obtain rfl | rfl : j = 0 ∨ j = 1 := by simp at hj; omega
 ·exact h
 ·exact h'
theorem jS (t A B : Tx) (page : Int) (y : Nat) (hy : y < 8) : Two t A B page (ro8 y) 53 [.string ⟨t.toArray⟩, .string ⟨(ro8 y).toArray⟩, .int .i64 page] := by
 obtain rfl | rfl | rfl | rfl | rfl | rfl | rfl | rfl : y = 0 ∨ y = 1 ∨ y = 2 ∨ y = 3 ∨ y = 4 ∨ y = 5 ∨ y = 6 ∨ y = 7 := by omega
 ·exact .rlc_ _
 ·exact .rrc_ _
 ·exact .rl_ _
 ·exact .rr_ _
 ·exact .sla_ _
 ·exact .sra_ _
 ·exact .sll_ _
 ·exact .srl_ _
def rsT (on : Bool) : Tx := cond on [83, 69, 84] [82, 69, 83]
theorem ZdO (t A B : Tx) (page : Int) (on : Bool) : Two t A B page (rsT on) 53 [.string ⟨t.toArray⟩, .string ⟨(rsT on).toArray⟩, .int .i64 page] := by
 cases on
 ·exact .res_ _
 ·exact .set_ _
theorem Ki (y : Nat) (hy : y < 8) : (ro8 y == [66, 73, 84]) = false ∧ (ro8 y == [82, 69, 83]) = false ∧ (ro8 y == [83, 69, 84]) = false := by
 have : ∀ y, y < 8 → (ro8 y == [66, 73, 84]) = false ∧ (ro8 y == [82, 69, 83]) = false ∧ (ro8 y == [83, 69, 84]) = false := by decide
 exact this y hy
theorem VW (y : Nat) (hy : y < 8) : 0 < (Zbb y).length ∧ (((Zbb y).getD 0 0).toNat : Int) = 48 + (y : Int) := by
 have : ∀ y, y < 8 → 0 < (Zbb y).length ∧ (((Zbb y).getD 0 0).toNat : Int) = 48 + (y : Int) := by decide
 exact this y hy
theorem Zl0 (q : Nat) (hq : Q3 q) : ∀ y, y < 8 → ∀ z, z < 8 → (q = 0 → z = 6) → W3 (Zn (bpg q) (64 + 8 * y + z)) [66, 73, 84] [Zbb y, meT q] = true := by rcases hq with rfl | rfl | rfl <;> decide +kernel
theorem wb_rs (q : Nat) (hq : Q3 q) (on : Bool) : ∀ y, y < 8 → W3 (Zn (bpg q) (128 + 64 * on.toNat + 8 * y + 6)) (rsT on) [Zbb y, meT q] = true := by rcases hq with rfl | rfl | rfl <;> cases on <;> decide +kernel
theorem Zl1 (q : Nat) (hq : Q3 q) (on : Bool) : ∀ y, y < 8 → ∀ z, z < 8 → ¬ z = 6 → ¬ q = 0 → W3 (Zn (bpg q) (128 + 64 * on.toNat + 8 * y + z)) (rsT on) [Zbb y, meT q, leT z 0] = true := by rcases hq with rfl | rfl | rfl <;> cases on <;> decide +kernel
theorem Zl2 (q : Nat) (hq : Q3 q) : ∀ y, y < 8 → W3 (Zn (bpg q) (8 * y + 6)) (ro8 y) [meT q] = true := by rcases hq with rfl | rfl | rfl <;> decide +kernel
theorem ZjD (q : Nat) (hq : Q3 q) : ∀ y, y < 8 → ∀ z, z < 8 → ¬ z = 6 → ¬ q = 0 → W3 (Zn (bpg q) (8 * y + z)) (ro8 y) [meT q, leT z 0] = true := by rcases hq with rfl | rfl | rfl <;> decide +kernel
theorem wr_bit : ∀ y, y < 8 → ∀ z, z < 8 → ¬ z = 6 → W3 (Zn 1 (64 + 8 * y + z)) [66, 73, 84] [Zbb y, leT z 0] = true := by decide +kernel
theorem wr_rs (on : Bool) : ∀ y, y < 8 → ∀ z, z < 8 → ¬ z = 6 → W3 (Zn 1 (128 + 64 * on.toNat + 8 * y + z)) (rsT on) [Zbb y, leT z 0] = true := by cases on <;> decide +kernel
theorem wr_rot : ∀ y, y < 8 → ∀ z, z < 8 → ¬ z = 6 → W3 (Zn 1 (8 * y + z)) (ro8 y) [leT z 0] = true := by decide +kernel
theorem Zl3 (q : Nat) (hq : Q3 q) (s : Cs) (tq : Nat) (ht : tq < 65536) (y : Nat) (hy : y < 8) (z : Nat) (hz : z < 8) (c0 : q = 0 → z = 6) : Zg (Zn (bpg q) (64 + 8 * y + z)) (bpg q) s tq (Nat.beq q 0).not 1 (cond (Nat.beq q 0).not 16 12) (s.bitsAt 1 y z tq) := by
 have hw := Zl0 q hq y hy z hz c0
 exact ZgP hw (by simp) (by simp) (.bit_ _) (fun w1 h2 h3 h4 _ _ _ _ _ _ H => zr _ w1 (by have := (W3.out hw).1; omega) h3 _ _ y hy (VW y hy).1 (VW y hy).2 h2 h4 (s.m tq) (H.out.fx.good.m8 _) (s.rd tq) (zt q hq ht) true (zu q hq) _ (zv q hq 8 12 16) _ _ _ _ rfl H.out.fits.wz rfl rfl H.out.fits.f rfl H) rfl rfl
theorem Zl4 (s : Cs) (tq : Nat) (ix : Bool) (y : Nat) (hy : y < 8) (z : Nat) (hz : z < 8) (c0 : ¬ z = 6) : Zg (Zn 1 (64 + 8 * y + z)) (1) s tq ix 1 (8) (s.setF (Jj y (s.r.one z 0) s.r.f (s.r.one z 0))) := by
 have hw := wr_bit y hy z hz c0
 exact ZgP hw (by simp) (by simp) (.bit_ _) (fun w1 h2 h3 h4 _ _ _ _ _ _ H => zr _ w1 (by have := (W3.out hw).1; omega) h3 _ _ y hy (VW y hy).1 (VW y hy).2 h2 h4 (s.r.one z 0) (s.r.one_lt H.out.fits _ _) (s) (ZdL z 0 (by omega) (by decide)) false (ZdM z 0 (by omega) (by decide)) _ (ZdN z 0 (by omega) (by decide) 8 12 16) _ _ _ _ rfl H.out.fits.wz rfl rfl H.out.fits.f rfl H) rfl rfl
theorem Zl5 (q : Nat) (hq : Q3 q) (s : Cs) (tq : Nat) (ht : tq < 65536) (y : Nat) (hy : y < 8) (on : Bool) : Zg (Zn (bpg q) (128 + 64 * on.toNat + 8 * y + 6)) (bpg q) s tq (Nat.beq q 0).not 2 (cond (Nat.beq q 0).not 19 15) ((s.rd tq).wr tq (KU y (s.m tq) on)) := by
 have hw := wb_rs q hq on y hy
 exact ZgP hw (by simp) (by simp) (ZdO _ _ _ _ on) (fun w1 h2 h3 h4 _ _ _ _ _ _ H => UX _ w1 (by have := (W3.out hw).1; omega) h3 _ on rfl [meT q] (by simp) (by simp) _ rfl _ y hy (VW y hy).1 (VW y hy).2 h2 h4 (s.m tq) (H.out.fx.good.m8 _) (s.rd tq) (zt q hq ht) true (zu q hq) _ (zv q hq 8 15 19) _ rfl H.out.fits.wz _ rfl (st2 (s.rd tq) ((s.rd tq).wr tq (KU y (s.m tq) on)) s) rfl (vr (vq q _ hq ht (Kt y _ on hy (H.out.fx.good.m8 _)))) H) rfl rfl
theorem ZgR (q : Nat) (hq : Q3 q) (s : Cs) (tq : Nat) (ht : tq < 65536) (y : Nat) (hy : y < 8) (on : Bool) (z : Nat) (hz : z < 8) (c0 : ¬ z = 6) (c1 : ¬ q = 0) : Zg (Zn (bpg q) (128 + 64 * on.toNat + 8 * y + z)) (bpg q) s tq (Nat.beq q 0).not 3 (cond (Nat.beq q 0).not 19 15) (((s.rd tq).wr tq (KU y (s.m tq) on)).setOwn (z : Int) (KU y (s.m tq) on)) := by
 have hw := Zl1 q hq on y hy z hz c0 c1
 exact ZgP hw (by simp) (by simp) (ZdO _ _ _ _ on) (fun w1 h2 h3 h4 _ _ _ _ _ _ H => UX _ w1 (by have := (W3.out hw).1; omega) h3 _ on rfl [meT q, leT z 0] (by simp) (by simp) _ rfl _ y hy (VW y hy).1 (VW y hy).2 h2 h4 (s.m tq) (H.out.fx.good.m8 _) (s.rd tq) (zt q hq ht) true (zu q hq) _ (zv q hq 8 15 19) _ rfl H.out.fits.wz _ rfl (st2 (s.rd tq) ((s.rd tq).wr tq (KU y (s.m tq) on)) (((s.rd tq).wr tq (KU y (s.m tq) on)).setR (s.r.setOne z 0 (KU y (s.m tq) on)))) rfl (ZgQ (vq q _ hq ht (Kt y _ on hy (H.out.fx.good.m8 _))) (vp z 0 _ (by omega) (by decide) (Kt y _ on hy (H.out.fx.good.m8 _)))) H) rfl rfl
theorem Zl6 (s : Cs) (tq : Nat) (ix : Bool) (y : Nat) (hy : y < 8) (on : Bool) (z : Nat) (hz : z < 8) (c0 : ¬ z = 6) : Zg (Zn 1 (128 + 64 * on.toNat + 8 * y + z)) (1) s tq ix 2 (8) (s.setR (s.r.setOne z 0 (KU y (s.r.one z 0) on))) := by
 have hw := wr_rs on y hy z hz c0
 exact ZgP hw (by simp) (by simp) (ZdO _ _ _ _ on) (fun w1 h2 h3 h4 _ _ _ _ _ _ H => UX _ w1 (by have := (W3.out hw).1; omega) h3 _ on rfl [leT z 0] (by simp) (by simp) _ rfl _ y hy (VW y hy).1 (VW y hy).2 h2 h4 (s.r.one z 0) (s.r.one_lt H.out.fits _ _) (s) (ZdL z 0 (by omega) (by decide)) false (ZdM z 0 (by omega) (by decide)) _ (ZdN z 0 (by omega) (by decide) 8 15 19) _ rfl H.out.fits.wz _ rfl (st2 s (s.setR (s.r.setOne z 0 (KU y (s.r.one z 0) on))) s) rfl (vr (vp z 0 _ (by omega) (by decide) (Kt y _ on hy (s.r.one_lt H.out.fits _ _)))) H) rfl rfl
theorem Zl7 (q : Nat) (hq : Q3 q) (s : Cs) (tq : Nat) (ht : tq < 65536) (y : Nat) (hy : y < 8) : Zg (Zn (bpg q) (8 * y + 6)) (bpg q) s tq (Nat.beq q 0).not 2 (cond (Nat.beq q 0).not 19 15) (((s.rd tq).setF (Yl y (s.m tq) (s.r.f % 2))).wr tq (tV y (s.m tq) (s.r.f % 2))) := by
 have hw := Zl2 q hq y hy
 exact ZgP hw (by simp) (by simp) (jS _ _ _ _ y hy) (fun w1 h2 h3 h4 _ _ _ _ _ _ H => VK _ w1 (by have := (W3.out hw).1; omega) h3 _ y hy rfl (Ki y hy).1 (Ki y hy).2.1 (Ki y hy).2.2 [meT q] (by simp) (by simp) _ rfl h2 h4 (s.m tq) (H.out.fx.good.m8 _) (s.rd tq) (zt q hq ht) true (zu q hq) _ (zv q hq 8 15 19) _ rfl H.out.fits.wz _ _ _ _ rfl H.out.fits.f rfl rfl rfl ((s.rd tq).setF (Yl y (s.m tq) (s.r.f % 2))) rfl (st2 ((s.rd tq).setF (Yl y (s.m tq) (s.r.f % 2))) (((s.rd tq).setF (Yl y (s.m tq) (s.r.f % 2))).wr tq (tV y (s.m tq) (s.r.f % 2))) s) rfl (vr (vq q _ hq ht (JL y _ _ (H.out.fx.good.m8 _) (by omega)))) H) rfl rfl
theorem ZjE (q : Nat) (hq : Q3 q) (s : Cs) (tq : Nat) (ht : tq < 65536) (y : Nat) (hy : y < 8) (z : Nat) (hz : z < 8) (c0 : ¬ z = 6) (c1 : ¬ q = 0) : Zg (Zn (bpg q) (8 * y + z)) (bpg q) s tq (Nat.beq q 0).not 3 (cond (Nat.beq q 0).not 19 15) ((((s.rd tq).setF (Yl y (s.m tq) (s.r.f % 2))).wr tq (tV y (s.m tq) (s.r.f % 2))).setOwn (z : Int) (tV y (s.m tq) (s.r.f % 2))) := by
 have hw := ZjD q hq y hy z hz c0 c1
 exact ZgP hw (by simp) (by simp) (jS _ _ _ _ y hy) (fun w1 h2 h3 h4 _ _ _ _ _ _ H => VK _ w1 (by have := (W3.out hw).1; omega) h3 _ y hy rfl (Ki y hy).1 (Ki y hy).2.1 (Ki y hy).2.2 [meT q, leT z 0] (by simp) (by simp) _ rfl h2 h4 (s.m tq) (H.out.fx.good.m8 _) (s.rd tq) (zt q hq ht) true (zu q hq) _ (zv q hq 8 15 19) _ rfl H.out.fits.wz _ _ _ _ rfl H.out.fits.f rfl rfl rfl ((s.rd tq).setF (Yl y (s.m tq) (s.r.f % 2))) rfl (st2 ((s.rd tq).setF (Yl y (s.m tq) (s.r.f % 2))) (((s.rd tq).setF (Yl y (s.m tq) (s.r.f % 2))).wr tq (tV y (s.m tq) (s.r.f % 2))) ((((s.rd tq).setF (Yl y (s.m tq) (s.r.f % 2))).wr tq (tV y (s.m tq) (s.r.f % 2))).setR (((s.rd tq).setF (Yl y (s.m tq) (s.r.f % 2))).r.setOne z 0 (tV y (s.m tq) (s.r.f % 2))))) rfl (ZgQ (vq q _ hq ht (JL y _ _ (H.out.fx.good.m8 _) (by omega))) (vp z 0 _ (by omega) (by decide) (JL y _ _ (H.out.fx.good.m8 _) (by omega)))) H) rfl rfl
theorem Zl8 (s : Cs) (tq : Nat) (ix : Bool) (y : Nat) (hy : y < 8) (z : Nat) (hz : z < 8) (c0 : ¬ z = 6) : Zg (Zn 1 (8 * y + z)) (1) s tq ix 2 (8) ((s.setF (Yl y (s.r.one z 0) (s.r.f % 2))).setR ((s.setF (Yl y (s.r.one z 0) (s.r.f % 2))).r.setOne z 0 (tV y (s.r.one z 0) (s.r.f % 2)))) := by
 have hw := wr_rot y hy z hz c0
 exact ZgP hw (by simp) (by simp) (jS _ _ _ _ y hy) (fun w1 h2 h3 h4 _ _ _ _ _ _ H => VK _ w1 (by have := (W3.out hw).1; omega) h3 _ y hy rfl (Ki y hy).1 (Ki y hy).2.1 (Ki y hy).2.2 [leT z 0] (by simp) (by simp) _ rfl h2 h4 (s.r.one z 0) (s.r.one_lt H.out.fits _ _) (s) (ZdL z 0 (by omega) (by decide)) false (ZdM z 0 (by omega) (by decide)) _ (ZdN z 0 (by omega) (by decide) 8 15 19) _ rfl H.out.fits.wz _ _ _ _ rfl H.out.fits.f rfl rfl rfl (s.setF (Yl y (s.r.one z 0) (s.r.f % 2))) rfl (st2 (s.setF (Yl y (s.r.one z 0) (s.r.f % 2))) ((s.setF (Yl y (s.r.one z 0) (s.r.f % 2))).setR ((s.setF (Yl y (s.r.one z 0) (s.r.f % 2))).r.setOne z 0 (tV y (s.r.one z 0) (s.r.f % 2)))) s) rfl (vr (vp z 0 _ (by omega) (by decide) (JL y _ _ (s.r.one_lt H.out.fits _ _) (by omega)))) H) rfl rfl
end
end Go.Proofs.YtgdeeiimkhjfiaaGreatDoor
