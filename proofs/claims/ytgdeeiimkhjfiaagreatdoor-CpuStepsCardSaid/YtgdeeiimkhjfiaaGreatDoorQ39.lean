import Derived.Test.YtgdeeiimkhjfiaaGreatDoorQ38
set_option maxRecDepth 100000
set_option maxHeartbeats 6400000
namespace Go.Proofs.YtgdeeiimkhjfiaaGreatDoor
open Go.RowKit
section
variable {W0 w : World} {x b tq n c : Nat} {s : Cs} {ix : Bool} {pg : Int} {l : Blocks}
theorem xld_far {A B : Tx} {k : Nat} {c : Int} {s' : Cs} {tq' : Nat} {ix' : Bool} (hAB : (A == [40, 110, 110, 41] || B == [40, 110, 110, 41]) = true) (D : Does 83 [.string ⟨A.toArray⟩, .string ⟨B.toArray⟩] s tq ix pg k c s' tq' ix') (H : Hid (Ex W0 w x b s tq ix pg l (n + k))) :
  CX 45 #[.pointer (some ⟨x, 0, none⟩), .string ⟨A.toArray⟩, .string ⟨B.toArray⟩] w (.int .i64 c) fun w' => Hid (Ex W0 w' x b s' tq' ix' pg l n) := by
 have HD := Lib.hid D
 obtain ⟨B1, h1⟩ : ∃ B1, (A == [40, 110, 110, 41]) = B1 := ⟨_, rfl⟩
 obtain ⟨B2, h2⟩ : ∃ B2, (B == [40, 110, 110, 41]) = B2 := ⟨_, rfl⟩
 rw [h1, h2] at hAB
 clear D
 cases B1 <;> cases B2
 ·cases hAB
 all_goals
  clear hAB
  go_enter Tryz.func45, Tryz.ntmps45
  go_wp2_with (first | (go_at_call 83; (with_reducible refine (HD.out _ _ _ _ _ _ H).mono ?_); rintro e w' ⟨rfl, H'⟩; clear H; have H := H'; clear H'))
  go_ret
  exact ⟨rfl, H⟩
theorem goTo_eq (T : Cs) (v : Nat) (h : T.r.wz = v) : T.setPC v = T.goTo v := by
 obtain ⟨r, px, u⟩ := T
 cases r
 simp only at h
 subst h
 rfl
theorem push_wz (S : Cs) (z : Nat) : (S.push z).r.wz = S.r.wz := by unfold Cs.push; simp only []
theorem call_eq (S : Cs) (v : Nat) (h : S.r.wz = v) : (S.push S.r.pc).setPC v = S.start v := goTo_eq _ v ((push_wz _ _).trans h)
theorem join_div (a b : Nat) (h : b < 256) : (a * 256 + b) / 256 = a := by omega
theorem join_mod (a b : Nat) (h : b < 256) : (a * 256 + b) % 256 = b := by omega
theorem swap_de (s : Cs) (h : s.r.Fits) : ((s.setR { ({ s.r with d := (s.r.h * 256 + s.r.l) / 256, e := (s.r.h * 256 + s.r.l) % 256 } : Rg) with h := (s.r.d * 256 + s.r.e) / 256, l := (s.r.d * 256 + s.r.e) % 256 }) : Cs) = s.swapDE := by
 have e1 := join_div s.r.h s.r.l h.l
 have e2 := join_mod s.r.h s.r.l h.l
 have e3 := join_div s.r.d s.r.e h.e
 have e4 := join_mod s.r.d s.r.e h.e
 rw [e1, e2, e3, e4]; rfl
theorem k55 {P : Prop} (h : P := by
 revert c1 c0 hz z hy y; rcases hq with rfl | rfl | rfl <;> decide +kernel) : P := h
theorem pl_ldrr (q : Nat) (hq : Q3 q) (s : Cs) (hp : s.px = q) (y : Nat) (hy : y < 8) (z : Nat) (hz : z < 8) (c0 : ¬ y = 6) (c1 : ¬ z = 6) (tq : Nat) (ix : Bool) : RunDoes (rPat (pgOf q) (64 + 8 * y + z)) (pgOf q) s tq ix 0 (4) (s.setOne (y : Int) (s.one (z : Int))) := by
 have hw : W2 (rPat (pgOf q) (64 + 8 * y + z)) ([76, 68]) (leT y q) (leT z q) = true := by
  exact k55
 obtain ⟨r, px, u⟩ := s
 obtain rfl : px = q := hp
 rcases hq with rfl | rfl | rfl <;> exact run2 hw (.ld_ _) (fun _ _ _ _ _ _ H => xld_rr (Nm.ofLet y _ (by omega)) (un_let y _ (by omega) (by decide)) (Nm.ofLet z _ (by omega)) (un_let z _ (by omega) (by decide)) _ rfl _ rfl H) rfl rfl
theorem pl_halt (q : Nat) (hq : Q3 q) (s : Cs) (hp : s.px = q) (tq : Nat) (ix : Bool) : RunDoes (rPat (pgOf q) (118)) (pgOf q) s tq ix 0 (4) (s.setHT true) := by
 have hw : W1 (rPat (pgOf q) (118)) ([72, 65, 76, 84]) = true := by
  rcases hq with rfl | rfl | rfl <;> decide +kernel
 obtain ⟨r, px, u⟩ := s
 obtain rfl : px = q := hp
 rcases hq with rfl | rfl | rfl <;> exact runA hw (by decide) (.halt_ _) (fun _ _ _ _ _ _ H => xal_halt _ _ rfl rfl H) rfl rfl
theorem pl_sumar (q : Nat) (hq : Q3 q) (s : Cs) (hp : s.px = q) (y : Nat) (hy : y < 8) (z : Nat) (hz : z < 8) (c0 : y = 0 ∨ y = 1 ∨ y = 3) (c1 : ¬ z = 6) (tq : Nat) (ix : Bool) : RunDoes (rPat (pgOf q) (128 + 8 * y + z)) (pgOf q) s tq ix 0 (4) (s.sum y (s.one (z : Int))) := by
 have hw : W2 (rPat (pgOf q) (128 + 8 * y + z)) (suT.getD y []) (sA y (leT z q)) (sB y (leT z q)) = true := by
  exact k55
 rw [show sA y (leT z q) = [65] from if_pos c0, show sB y (leT z q) = leT z q from if_pos c0] at hw
 obtain ⟨r, px, u⟩ := s
 obtain rfl : px = q := hp
 rcases hq with rfl | rfl | rfl <;> exact run2 hw ((two_sum _ _ _ _ y hy)) (fun _ _ _ _ _ _ H => xsum_r (Nm.ofLet z _ (by omega)) (un_let z _ (by omega) (by decide)) y hy _ rfl _ _ rfl rfl _ _ _ rfl rfl false (un_let z _ (by omega) (by decide) [] (by decide)) rfl rfl rfl H) rfl rfl
theorem pl_suman (q : Nat) (hq : Q3 q) (s : Cs) (hp : s.px = q) (y : Nat) (hy : y < 8) (c0 : y = 0 ∨ y = 1 ∨ y = 3) (tq : Nat) (ix : Bool) : RunDoes (rPat (pgOf q) (198 + 8 * y)) (pgOf q) s tq ix 1 (7) (s.next.sum y s.nextV) := by
 have hw : W2 (rPat (pgOf q) (198 + 8 * y)) (suT.getD y []) (sA y ([110])) (sB y ([110])) = true := by
  exact k33
 rw [show sA y ([110]) = [65] from if_pos c0, show sB y ([110]) = [110] from if_pos c0] at hw
 obtain ⟨r, px, u⟩ := s
 obtain rfl : px = q := hp
 rcases hq with rfl | rfl | rfl <;> exact run2 hw ((two_sum _ _ _ _ y hy)) (fun _ _ _ _ _ _ H => xsum_n _ rfl y hy _ rfl _ _ rfl rfl _ _ _ rfl rfl false rfl rfl rfl rfl H) rfl rfl
theorem pl_sumbr (q : Nat) (hq : Q3 q) (s : Cs) (hp : s.px = q) (y : Nat) (hy : y < 8) (z : Nat) (hz : z < 8) (c0 : ¬ (y = 0 ∨ y = 1 ∨ y = 3)) (c1 : ¬ z = 6) (tq : Nat) (ix : Bool) : RunDoes (rPat (pgOf q) (128 + 8 * y + z)) (pgOf q) s tq ix 0 (4) (s.sum y (s.one (z : Int))) := by
 have hw : W2 (rPat (pgOf q) (128 + 8 * y + z)) (suT.getD y []) (sA y (leT z q)) (sB y (leT z q)) = true := by
  exact k55
 rw [show sA y (leT z q) = leT z q from if_neg c0, show sB y (leT z q) = [] from if_neg c0] at hw
 obtain ⟨r, px, u⟩ := s
 obtain rfl : px = q := hp
 rcases hq with rfl | rfl | rfl <;> exact run2 hw ((two_sum _ _ _ _ y hy)) (fun _ _ _ _ _ _ H => xsum_r (Nm.ofLet z _ (by omega)) (un_let z _ (by omega) (by decide)) y hy _ rfl _ _ rfl rfl _ _ _ rfl rfl true rfl (pair_let z _ (by omega) (by decide)) rfl rfl H) rfl rfl
theorem pl_sumbn (q : Nat) (hq : Q3 q) (s : Cs) (hp : s.px = q) (y : Nat) (hy : y < 8) (c0 : ¬ (y = 0 ∨ y = 1 ∨ y = 3)) (tq : Nat) (ix : Bool) : RunDoes (rPat (pgOf q) (198 + 8 * y)) (pgOf q) s tq ix 1 (7) (s.next.sum y s.nextV) := by
 have hw : W2 (rPat (pgOf q) (198 + 8 * y)) (suT.getD y []) (sA y ([110])) (sB y ([110])) = true := by
  exact k33
 rw [show sA y ([110]) = [110] from if_neg c0, show sB y ([110]) = [] from if_neg c0] at hw
 obtain ⟨r, px, u⟩ := s
 obtain rfl : px = q := hp
 rcases hq with rfl | rfl | rfl <;> exact run2 hw ((two_sum _ _ _ _ y hy)) (fun _ _ _ _ _ _ H => xsum_n _ rfl y hy _ rfl _ _ rfl rfl _ _ _ rfl rfl true rfl rfl rfl rfl H) rfl rfl
theorem pl_incr (q : Nat) (hq : Q3 q) (s : Cs) (hp : s.px = q) (y : Nat) (hy : y < 8) (c0 : ¬ y = 6) (tq : Nat) (ix : Bool) : RunDoes (rPat (pgOf q) (4 + 8 * y)) (pgOf q) s tq ix 0 (4) ((s.setOne (y : Int) (Cs.countV false (s.one (y : Int)))).setF (Cs.countF false (s.one (y : Int)) s.r.f)) := by
 have hw : W2 (rPat (pgOf q) (4 + 8 * y)) ([73, 78, 67]) (leT y q) ([]) = true := by
  exact k33
 obtain ⟨r, px, u⟩ := s
 obtain rfl : px = q := hp
 rcases hq with rfl | rfl | rfl <;> exact run2 hw (.inc_ _) (fun _ _ _ _ _ _ H => xcnt_r_inc (Nm.ofLet y _ (by omega)) (un_let y _ (by omega) (by decide)) (pair_let y _ (by omega) (by decide)) _ _ rfl rfl _ _ rfl rfl _ rfl H) rfl rfl
theorem k41 {P : Prop} (h : P := by
 revert hp p; rcases hq with rfl | rfl | rfl <;> decide +kernel) : P := h
theorem pl_incp (q : Nat) (hq : Q3 q) (s : Cs) (hp : s.px = q) (p : Nat) (hp : p < 4) (tq : Nat) (ix : Bool) : RunDoes (rPat (pgOf q) (3 + 16 * p)) (pgOf q) s tq ix 0 (6) (s.setPair (p : Int) (up1 (s.pair (p : Int)))) := by
 have hw : W2 (rPat (pgOf q) (3 + 16 * p)) ([73, 78, 67]) (naT (pn q p)) ([]) = true := by
  exact k41
 obtain ⟨r, px, u⟩ := s
 obtain rfl : px = q := hp
 rcases hq with rfl | rfl | rfl <;> obtain rfl | rfl | rfl | rfl := (by omega : p = 0 ∨ p = 1 ∨ p = 2 ∨ p = 3) <;> exact run2 hw (.inc_ _) (fun _ _ _ _ _ _ H => xcnt_p_inc (Nm.ofPair _ (by decide)) (Lib.hid (pair_na _ (by decide))) _ _ rfl rfl _ rfl H) rfl rfl
theorem pl_decr (q : Nat) (hq : Q3 q) (s : Cs) (hp : s.px = q) (y : Nat) (hy : y < 8) (c0 : ¬ y = 6) (tq : Nat) (ix : Bool) : RunDoes (rPat (pgOf q) (5 + 8 * y)) (pgOf q) s tq ix 0 (4) ((s.setOne (y : Int) (Cs.countV true (s.one (y : Int)))).setF (Cs.countF true (s.one (y : Int)) s.r.f)) := by
 have hw : W2 (rPat (pgOf q) (5 + 8 * y)) ([68, 69, 67]) (leT y q) ([]) = true := by
  exact k33
 obtain ⟨r, px, u⟩ := s
 obtain rfl : px = q := hp
 rcases hq with rfl | rfl | rfl <;> exact run2 hw (.dec_ _) (fun _ _ _ _ _ _ H => xcnt_r_dec (Nm.ofLet y _ (by omega)) (un_let y _ (by omega) (by decide)) (pair_let y _ (by omega) (by decide)) _ _ rfl rfl _ _ rfl rfl _ rfl H) rfl rfl
theorem pl_decp (q : Nat) (hq : Q3 q) (s : Cs) (hp : s.px = q) (p : Nat) (hp : p < 4) (tq : Nat) (ix : Bool) : RunDoes (rPat (pgOf q) (11 + 16 * p)) (pgOf q) s tq ix 0 (6) (s.setPair (p : Int) (dn1 (s.pair (p : Int)))) := by
 have hw : W2 (rPat (pgOf q) (11 + 16 * p)) ([68, 69, 67]) (naT (pn q p)) ([]) = true := by
  exact k41
 obtain ⟨r, px, u⟩ := s
 obtain rfl : px = q := hp
 rcases hq with rfl | rfl | rfl <;> obtain rfl | rfl | rfl | rfl := (by omega : p = 0 ∨ p = 1 ∨ p = 2 ∨ p = 3) <;> exact run2 hw (.dec_ _) (fun _ _ _ _ _ _ H => xcnt_p_dec (Nm.ofPair _ (by decide)) (Lib.hid (pair_na _ (by decide))) _ _ rfl rfl _ rfl H) rfl rfl
theorem pl_ldrn (q : Nat) (hq : Q3 q) (s : Cs) (hp : s.px = q) (y : Nat) (hy : y < 8) (c0 : ¬ y = 6) (tq : Nat) (ix : Bool) : RunDoes (rPat (pgOf q) (6 + 8 * y)) (pgOf q) s tq ix 1 (7) (s.next.setOne (y : Int) s.nextV) := by
 have hw : W2 (rPat (pgOf q) (6 + 8 * y)) ([76, 68]) (leT y q) ([110]) = true := by
  exact k33
 obtain ⟨r, px, u⟩ := s
 obtain rfl : px = q := hp
 rcases hq with rfl | rfl | rfl <;> exact run2 hw (.ld_ _) (fun _ _ _ _ _ _ H => xld_rn (Nm.ofLet y _ (by omega)) (un_let y _ (by omega) (by decide)) _ _ rfl rfl _ rfl H) rfl rfl
theorem pl_ldpn (q : Nat) (hq : Q3 q) (s : Cs) (hp : s.px = q) (p : Nat) (hp : p < 4) (tq : Nat) (ix : Bool) : RunDoes (rPat (pgOf q) (1 + 16 * p)) (pgOf q) s tq ix 2 (10) (s.nextNum.setPair (p : Int) s.nextNumV) := by
 have hw : W2 (rPat (pgOf q) (1 + 16 * p)) ([76, 68]) (naT (pn q p)) ([110, 110]) = true := by
  exact k41
 obtain ⟨r, px, u⟩ := s
 obtain rfl : px = q := hp
 rcases hq with rfl | rfl | rfl <;> obtain rfl | rfl | rfl | rfl := (by omega : p = 0 ∨ p = 1 ∨ p = 2 ∨ p = 3) <;> exact run2 hw (.ld_ _) (fun _ _ _ _ _ _ H => xld_pn (Nm.ofPair _ (by decide)) (na_nn _ (by decide)) _ rfl _ _ rfl rfl _ rfl H) rfl rfl
theorem pl_addp (q : Nat) (hq : Q3 q) (s : Cs) (hp : s.px = q) (p : Nat) (hp : p < 4) (tq : Nat) (ix : Bool) : RunDoes (rPat (pgOf q) (9 + 16 * p)) (pgOf q) s tq ix 0 (11) (s.addPair (p : Int)) := by
 have hw : W2 (rPat (pgOf q) (9 + 16 * p)) ([65, 68, 68]) (naT (pn q 2)) (naT (pn q p)) = true := by
  exact k41
 obtain ⟨r, px, u⟩ := s
 obtain rfl : px = q := hp
 rcases hq with rfl | rfl | rfl <;> obtain rfl | rfl | rfl | rfl := (by omega : p = 0 ∨ p = 1 ∨ p = 2 ∨ p = 3) <;> exact run2 hw (.add_ _) (fun _ _ _ _ _ _ H => xsum_padd (Nm.ofPair _ (by decide)) (Nm.ofPair _ (by decide)) (Lib.hid (pair_na _ (by decide))) _ _ _ _ rfl rfl rfl _ rfl rfl _ _ rfl rfl _ rfl H) rfl rfl
theorem pl_ldBCa (q : Nat) (hq : Q3 q) (s : Cs) (hp : s.px = q) (tq : Nat) (ix : Bool) : RunDoes (rPat (pgOf q) (2)) (pgOf q) s tq ix 1 (7) (s.moveA 0 (s.pair 0)) := by
 have hw : W2 (rPat (pgOf q) (2)) ([76, 68]) ([40, 66, 67, 41]) ([65]) = true := by
  rcases hq with rfl | rfl | rfl <;> decide +kernel
 obtain ⟨r, px, u⟩ := s
 obtain rfl : px = q := hp
 rcases hq with rfl | rfl | rfl <;> exact run2 hw (.ld_ _) (fun _ _ _ _ _ _ H => xld_BCa _ _ _ rfl rfl rfl _ (congrArg (_ * 256 + ·) (up1_256 _)) H) rfl rfl
theorem pl_ldaBC (q : Nat) (hq : Q3 q) (s : Cs) (hp : s.px = q) (tq : Nat) (ix : Bool) : RunDoes (rPat (pgOf q) (10)) (pgOf q) s tq ix 1 (7) (s.moveA 1 (s.pair 0)) := by
 have hw : W2 (rPat (pgOf q) (10)) ([76, 68]) ([65]) ([40, 66, 67, 41]) = true := by
  rcases hq with rfl | rfl | rfl <;> decide +kernel
 obtain ⟨r, px, u⟩ := s
 obtain rfl : px = q := hp
 rcases hq with rfl | rfl | rfl <;> exact run2 hw (.ld_ _) (fun _ _ _ _ _ _ H => xld_aBC _ _ _ _ rfl rfl rfl rfl H) rfl rfl
theorem pl_ldDEa (q : Nat) (hq : Q3 q) (s : Cs) (hp : s.px = q) (tq : Nat) (ix : Bool) : RunDoes (rPat (pgOf q) (18)) (pgOf q) s tq ix 1 (7) (s.moveA 0 (s.pair 1)) := by
 have hw : W2 (rPat (pgOf q) (18)) ([76, 68]) ([40, 68, 69, 41]) ([65]) = true := by
  rcases hq with rfl | rfl | rfl <;> decide +kernel
 obtain ⟨r, px, u⟩ := s
 obtain rfl : px = q := hp
 rcases hq with rfl | rfl | rfl <;> exact run2 hw (.ld_ _) (fun _ _ _ _ _ _ H => xld_DEa _ _ _ rfl rfl rfl _ (congrArg (_ * 256 + ·) (up1_256 _)) H) rfl rfl
theorem pl_ldaDE (q : Nat) (hq : Q3 q) (s : Cs) (hp : s.px = q) (tq : Nat) (ix : Bool) : RunDoes (rPat (pgOf q) (26)) (pgOf q) s tq ix 1 (7) (s.moveA 1 (s.pair 1)) := by
 have hw : W2 (rPat (pgOf q) (26)) ([76, 68]) ([65]) ([40, 68, 69, 41]) = true := by
  rcases hq with rfl | rfl | rfl <;> decide +kernel
 obtain ⟨r, px, u⟩ := s
 obtain rfl : px = q := hp
 rcases hq with rfl | rfl | rfl <;> exact run2 hw (.ld_ _) (fun _ _ _ _ _ _ H => xld_aDE _ _ _ _ rfl rfl rfl rfl H) rfl rfl
theorem pl_ldNp (q : Nat) (hq : Q3 q) (s : Cs) (hp : s.px = q) (tq : Nat) (ix : Bool) : RunDoes (rPat (pgOf q) (34)) (pgOf q) s tq ix 4 (16) (s.movePair 0 2) := by
 have hw : W2 (rPat (pgOf q) (34)) ([76, 68]) ([40, 110, 110, 41]) (naT (pn q 2)) = true := by
  rcases hq with rfl | rfl | rfl <;> decide +kernel
 obtain ⟨r, px, u⟩ := s
 obtain rfl : px = q := hp
 rcases hq with rfl | rfl | rfl <;> exact run2 hw (.ld_ _) (fun _ _ _ _ _ _ H => xld_far rfl (fun _ _ _ _ _ _ H => xld_Np _ _ _ _ rfl rfl rfl rfl (Nm.ofPair _ (by decide)) (na_a _ (by decide)) _ rfl _ rfl _ rfl H) H) rfl rfl
theorem pl_ldpN (q : Nat) (hq : Q3 q) (s : Cs) (hp : s.px = q) (tq : Nat) (ix : Bool) : RunDoes (rPat (pgOf q) (42)) (pgOf q) s tq ix 4 (16) (s.movePair 1 2) := by
 have hw : W2 (rPat (pgOf q) (42)) ([76, 68]) (naT (pn q 2)) ([40, 110, 110, 41]) = true := by
  rcases hq with rfl | rfl | rfl <;> decide +kernel
 obtain ⟨r, px, u⟩ := s
 obtain rfl : px = q := hp
 rcases hq with rfl | rfl | rfl <;> exact run2 hw (.ld_ _) (fun _ _ _ _ _ _ H => xld_far rfl (fun _ _ _ _ _ _ H => xld_pN _ _ _ _ rfl rfl rfl rfl (Nm.ofPair _ (by decide)) (na_a _ (by decide)) (na_nn _ (by decide)) _ _ rfl rfl _ rfl _ rfl H) H) rfl rfl
theorem pl_ldNa (q : Nat) (hq : Q3 q) (s : Cs) (hp : s.px = q) (tq : Nat) (ix : Bool) : RunDoes (rPat (pgOf q) (50)) (pgOf q) s tq ix 3 (13) (s.nextNum.moveA 0 s.nextNumV) := by
 have hw : W2 (rPat (pgOf q) (50)) ([76, 68]) ([40, 110, 110, 41]) ([65]) = true := by
  rcases hq with rfl | rfl | rfl <;> decide +kernel
 obtain ⟨r, px, u⟩ := s
 obtain rfl : px = q := hp
 rcases hq with rfl | rfl | rfl <;> exact run2 hw (.ld_ _) (fun _ _ _ _ _ _ H => xld_far rfl (fun _ _ _ _ _ _ H => xld_Na _ _ _ _ rfl rfl rfl rfl _ rfl _ rfl _ rfl H) H) rfl rfl
theorem pl_ldaN (q : Nat) (hq : Q3 q) (s : Cs) (hp : s.px = q) (tq : Nat) (ix : Bool) : RunDoes (rPat (pgOf q) (58)) (pgOf q) s tq ix 3 (13) (s.nextNum.moveA 1 s.nextNumV) := by
 have hw : W2 (rPat (pgOf q) (58)) ([76, 68]) ([65]) ([40, 110, 110, 41]) = true := by
  rcases hq with rfl | rfl | rfl <;> decide +kernel
 obtain ⟨r, px, u⟩ := s
 obtain rfl : px = q := hp
 rcases hq with rfl | rfl | rfl <;> exact run2 hw (.ld_ _) (fun _ _ _ _ _ _ H => xld_far rfl (fun _ _ _ _ _ _ H => xld_aN _ _ _ _ rfl rfl rfl rfl _ _ rfl rfl H) H) rfl rfl
theorem pl_qrlca (q : Nat) (hq : Q3 q) (s : Cs) (hp : s.px = q) (tq : Nat) (ix : Bool) : RunDoes (rPat (pgOf q) (7)) (pgOf q) s tq ix 0 (4) (s.quick 0) := by
 have hw : W1 (rPat (pgOf q) (7)) ([82, 76, 67, 65]) = true := by
  rcases hq with rfl | rfl | rfl <;> decide +kernel
 obtain ⟨r, px, u⟩ := s
 obtain rfl : px = q := hp
 rcases hq with rfl | rfl | rfl <;> exact runA hw (by decide) (.rlca_ _) (fun _ _ _ _ _ _ H => xal_rlca _ _ rfl rfl _ _ rfl rfl H) rfl rfl
theorem pl_qrrca (q : Nat) (hq : Q3 q) (s : Cs) (hp : s.px = q) (tq : Nat) (ix : Bool) : RunDoes (rPat (pgOf q) (15)) (pgOf q) s tq ix 0 (4) (s.quick 1) := by
 have hw : W1 (rPat (pgOf q) (15)) ([82, 82, 67, 65]) = true := by
  rcases hq with rfl | rfl | rfl <;> decide +kernel
 obtain ⟨r, px, u⟩ := s
 obtain rfl : px = q := hp
 rcases hq with rfl | rfl | rfl <;> exact runA hw (by decide) (.rrca_ _) (fun _ _ _ _ _ _ H => xal_rrca _ _ rfl rfl _ _ rfl rfl H) rfl rfl
theorem pl_qrla (q : Nat) (hq : Q3 q) (s : Cs) (hp : s.px = q) (tq : Nat) (ix : Bool) : RunDoes (rPat (pgOf q) (23)) (pgOf q) s tq ix 0 (4) (s.quick 2) := by
 have hw : W1 (rPat (pgOf q) (23)) ([82, 76, 65]) = true := by
  rcases hq with rfl | rfl | rfl <;> decide +kernel
 obtain ⟨r, px, u⟩ := s
 obtain rfl : px = q := hp
 rcases hq with rfl | rfl | rfl <;> exact runA hw (by decide) (.rla_ _) (fun _ _ _ _ _ _ H => xal_rla _ _ rfl rfl _ _ rfl rfl H) rfl rfl
theorem pl_qrra (q : Nat) (hq : Q3 q) (s : Cs) (hp : s.px = q) (tq : Nat) (ix : Bool) : RunDoes (rPat (pgOf q) (31)) (pgOf q) s tq ix 0 (4) (s.quick 3) := by
 have hw : W1 (rPat (pgOf q) (31)) ([82, 82, 65]) = true := by
  rcases hq with rfl | rfl | rfl <;> decide +kernel
 obtain ⟨r, px, u⟩ := s
 obtain rfl : px = q := hp
 rcases hq with rfl | rfl | rfl <;> exact runA hw (by decide) (.rra_ _) (fun _ _ _ _ _ _ H => xal_rra _ _ rfl rfl _ _ rfl rfl H) rfl rfl
theorem pl_qdaa (q : Nat) (hq : Q3 q) (s : Cs) (hp : s.px = q) (tq : Nat) (ix : Bool) : RunDoes (rPat (pgOf q) (39)) (pgOf q) s tq ix 0 (4) (s.quick 4) := by
 have hw : W1 (rPat (pgOf q) (39)) ([68, 65, 65]) = true := by
  rcases hq with rfl | rfl | rfl <;> decide +kernel
 obtain ⟨r, px, u⟩ := s
 obtain rfl : px = q := hp
 rcases hq with rfl | rfl | rfl <;> exact runA hw (by decide) (.daa_ _) (fun _ _ _ _ _ _ H => xal_daa _ _ rfl rfl _ _ rfl rfl H) rfl rfl
theorem pl_qcpl (q : Nat) (hq : Q3 q) (s : Cs) (hp : s.px = q) (tq : Nat) (ix : Bool) : RunDoes (rPat (pgOf q) (47)) (pgOf q) s tq ix 0 (4) (s.quick 5) := by
 have hw : W1 (rPat (pgOf q) (47)) ([67, 80, 76]) = true := by
  rcases hq with rfl | rfl | rfl <;> decide +kernel
 obtain ⟨r, px, u⟩ := s
 obtain rfl : px = q := hp
 rcases hq with rfl | rfl | rfl <;> exact runA hw (by decide) (.cpl_ _) (fun _ _ _ _ _ _ H => xal_cpl _ _ rfl rfl _ _ rfl rfl H) rfl rfl
theorem pl_qscf (q : Nat) (hq : Q3 q) (s : Cs) (hp : s.px = q) (tq : Nat) (ix : Bool) : RunDoes (rPat (pgOf q) (55)) (pgOf q) s tq ix 0 (4) (s.quick 6) := by
 have hw : W1 (rPat (pgOf q) (55)) ([83, 67, 70]) = true := by
  rcases hq with rfl | rfl | rfl <;> decide +kernel
 obtain ⟨r, px, u⟩ := s
 obtain rfl : px = q := hp
 rcases hq with rfl | rfl | rfl <;> exact runA hw (by decide) (.scf_ _) (fun _ _ _ _ _ _ H => xal_scf _ _ rfl rfl _ _ rfl rfl H) rfl rfl
theorem pl_qccf (q : Nat) (hq : Q3 q) (s : Cs) (hp : s.px = q) (tq : Nat) (ix : Bool) : RunDoes (rPat (pgOf q) (63)) (pgOf q) s tq ix 0 (4) (s.quick 7) := by
 have hw : W1 (rPat (pgOf q) (63)) ([67, 67, 70]) = true := by
  rcases hq with rfl | rfl | rfl <;> decide +kernel
 obtain ⟨r, px, u⟩ := s
 obtain rfl : px = q := hp
 rcases hq with rfl | rfl | rfl <;> exact runA hw (by decide) (.ccf_ _) (fun _ _ _ _ _ _ H => xal_ccf _ _ rfl rfl _ _ rfl rfl H) rfl rfl
theorem pl_nop (q : Nat) (hq : Q3 q) (s : Cs) (hp : s.px = q) (tq : Nat) (ix : Bool) : RunDoes (rPat (pgOf q) (0)) (pgOf q) s tq ix 0 (4) (s) := by
 have hw : W1 (rPat (pgOf q) (0)) ([78, 79, 80]) = true := by
  rcases hq with rfl | rfl | rfl <;> decide +kernel
 obtain ⟨r, px, u⟩ := s
 obtain rfl : px = q := hp
 rcases hq with rfl | rfl | rfl <;> exact runA hw (by decide) (.nop_ _) (fun _ _ _ _ _ _ H => xal_nop _ _ rfl rfl H) rfl rfl
theorem pl_exaf (q : Nat) (hq : Q3 q) (s : Cs) (hp : s.px = q) (tq : Nat) (ix : Bool) : RunDoes (rPat (pgOf q) (8)) (pgOf q) s tq ix 0 (4) (s.setR (s.r.swap false)) := by
 have hw : W2 (rPat (pgOf q) (8)) ([69, 88]) ([65, 70]) ([65, 70, 39]) = true := by
  rcases hq with rfl | rfl | rfl <;> decide +kernel
 obtain ⟨r, px, u⟩ := s
 obtain rfl : px = q := hp
 rcases hq with rfl | rfl | rfl <;> exact run2 hw (.ex_ _) (fun _ _ _ _ _ _ H => xexaf _ rfl H) rfl rfl
theorem pl_djnz (q : Nat) (hq : Q3 q) (s : Cs) (hp : s.px = q) (tq : Nat) (ix : Bool) : RunDoes (rPat (pgOf q) (16)) (pgOf q) s tq ix 1 (((Cs.hopC (decide (s.decB ≠ 0)) 13 : Nat) : Int)) ((s.setB s.decB).hop (decide (s.decB ≠ 0))) := by
 have hw : W2 (rPat (pgOf q) (16)) ([68, 74, 78, 90]) ([101]) ([]) = true := by
  rcases hq with rfl | rfl | rfl <;> decide +kernel
 obtain ⟨r, px, u⟩ := s
 obtain rfl : px = q := hp
 rcases hq with rfl | rfl | rfl <;> exact run2 hw (.djnz_ _) (fun _ _ _ _ _ _ H => xdjnz _ _ rfl rfl _ rfl _ _ rfl rfl _ rfl _ rfl _ rfl H) (cast_cond _ 13 8) rfl
theorem pl_jr (q : Nat) (hq : Q3 q) (s : Cs) (hp : s.px = q) (tq : Nat) (ix : Bool) : RunDoes (rPat (pgOf q) (24)) (pgOf q) s tq ix 1 (12) (s.hop true) := by
 have hw : W2 (rPat (pgOf q) (24)) ([74, 82]) ([101]) ([]) = true := by
  rcases hq with rfl | rfl | rfl <;> decide +kernel
 obtain ⟨r, px, u⟩ := s
 obtain rfl : px = q := hp
 rcases hq with rfl | rfl | rfl <;> exact run2 hw (.jr_ _) (fun _ _ _ _ _ _ H => xjr _ _ rfl rfl _ rfl _ rfl H) rfl rfl
theorem k45 {P : Prop} (h : P := by
 revert hy y; rcases hq with rfl | rfl | rfl <;> decide +kernel) : P := h
theorem pl_jrcc (q : Nat) (hq : Q3 q) (s : Cs) (hp : s.px = q) (y : Nat) (hy : y < 4) (tq : Nat) (ix : Bool) : RunDoes (rPat (pgOf q) (32 + 8 * y)) (pgOf q) s tq ix 1 (((Cs.hopC (rgMet s.r.f y) 12 : Nat) : Int)) (s.hop (rgMet s.r.f y)) := by
 have hw : W2 (rPat (pgOf q) (32 + 8 * y)) ([74, 82]) (ccT y) ([101]) = true := by
  exact k45
 obtain ⟨r, px, u⟩ := s
 obtain rfl : px = q := hp
 rcases hq with rfl | rfl | rfl <;> exact run2 hw (.jr_ _) (fun _ _ _ _ _ _ H => xjr_cc _ y rfl (by omega) _ rfl _ rfl _ _ rfl rfl _ rfl _ rfl H) (cast_cond _ 12 7) rfl
theorem pl_retcc (q : Nat) (hq : Q3 q) (s : Cs) (hp : s.px = q) (y : Nat) (hy : y < 8) (tq : Nat) (ix : Bool) : RunDoes (rPat (pgOf q) (192 + 8 * y)) (pgOf q) s tq ix 2 (((cond (rgMet s.r.f y) 11 5 : Nat) : Int)) (s.backIf (rgMet s.r.f y)) := by
 have hw : W2 (rPat (pgOf q) (192 + 8 * y)) ([82, 69, 84]) (ccT y) ([]) = true := by
  exact k45
 obtain ⟨r, px, u⟩ := s
 obtain rfl : px = q := hp
 rcases hq with rfl | rfl | rfl <;> exact run2 hw (.ret_ _) (fun _ _ _ _ _ _ H => xret_cc _ y rfl (by omega) _ rfl _ rfl _ _ _ rfl rfl rfl H) (cast_cond _ 11 5) rfl
theorem pl_ret (q : Nat) (hq : Q3 q) (s : Cs) (hp : s.px = q) (tq : Nat) (ix : Bool) : RunDoes (rPat (pgOf q) (201)) (pgOf q) s tq ix 2 (10) (s.back) := by
 have hw : W1 (rPat (pgOf q) (201)) ([82, 69, 84]) = true := by
  rcases hq with rfl | rfl | rfl <;> decide +kernel
 obtain ⟨r, px, u⟩ := s
 obtain rfl : px = q := hp
 rcases hq with rfl | rfl | rfl <;> exact run1 hw (.ret_ _) (fun _ _ _ _ _ _ H => xret _ _ _ rfl rfl rfl H) rfl rfl
theorem pl_exx (q : Nat) (hq : Q3 q) (s : Cs) (hp : s.px = q) (tq : Nat) (ix : Bool) : RunDoes (rPat (pgOf q) (217)) (pgOf q) s tq ix 0 (4) (s.setR (s.r.swap true)) := by
 have hw : W1 (rPat (pgOf q) (217)) ([69, 88, 88]) = true := by
  rcases hq with rfl | rfl | rfl <;> decide +kernel
 obtain ⟨r, px, u⟩ := s
 obtain rfl : px = q := hp
 rcases hq with rfl | rfl | rfl <;> exact run1 hw (.exx_ _) (fun _ _ _ _ _ _ H => xexx _ rfl H) rfl rfl
theorem pl_jphl (q : Nat) (hq : Q3 q) (s : Cs) (hp : s.px = q) (tq : Nat) (ix : Bool) : RunDoes (rPat (pgOf q) (233)) (pgOf q) s tq ix 0 (4) (s.setPC (s.pair 2)) := by
 have hw : W2 (rPat (pgOf q) (233)) ([74, 80]) (jpT q) ([]) = true := by
  rcases hq with rfl | rfl | rfl <;> decide +kernel
 obtain ⟨r, px, u⟩ := s
 obtain rfl : px = q := hp
 rcases hq with rfl | rfl | rfl
 ·exact run2 hw (.jp_ _) (fun _ _ _ _ _ _ H => xjp_HL _ rfl H) rfl rfl
 ·exact run2 hw (.jp_ _) (fun _ _ _ _ _ _ H => xjp_IX _ rfl H) rfl rfl
 ·exact run2 hw (.jp_ _) (fun _ _ _ _ _ _ H => xjp_IY _ rfl H) rfl rfl
theorem pl_ldsp (q : Nat) (hq : Q3 q) (s : Cs) (hp : s.px = q) (tq : Nat) (ix : Bool) : RunDoes (rPat (pgOf q) (249)) (pgOf q) s tq ix 0 (6) (s.setSP (s.pair 2)) := by
 have hw : W2 (rPat (pgOf q) (249)) ([76, 68]) ([83, 80]) (naT (pn q 2)) = true := by
  rcases hq with rfl | rfl | rfl <;> decide +kernel
 obtain ⟨r, px, u⟩ := s
 obtain rfl : px = q := hp
 rcases hq with rfl | rfl | rfl <;> exact run2 hw (.ld_ _) (fun _ _ _ _ _ _ H => xld_sp (Nm.ofPair _ (by decide)) (na_nn _ (by decide)) (na_n2 _ (by decide)) _ rfl _ rfl H) rfl rfl
theorem pl_pop (q : Nat) (hq : Q3 q) (s : Cs) (hp : s.px = q) (p : Nat) (hp : p < 4) (tq : Nat) (ix : Bool) : RunDoes (rPat (pgOf q) (193 + 16 * p)) (pgOf q) s tq ix 2 (10) (s.pop.setPair (Cs.stacked p) s.popV) := by
 have hw : W2 (rPat (pgOf q) (193 + 16 * p)) ([80, 79, 80]) (naT (psn q p)) ([]) = true := by
  exact k41
 obtain ⟨r, px, u⟩ := s
 obtain rfl : px = q := hp
 obtain ⟨h1, w1, qq, h2, h3, h4, h5, h6, h7, h8⟩ := W2.out hw
 rcases hq with rfl | rfl | rfl <;> obtain rfl | rfl | rfl | rfl := (by omega : p = 0 ∨ p = 1 ∨ p = 2 ∨ p = 3) <;> exact fun _ _ _ _ _ _ _ H => (xrun_pop _ w1 (by omega) _ h2 h3 qq h4 h5 h6 _ _ h7 h8 (Nm.ofPair _ (by decide)) _ _ rfl rfl _ rfl H).mono fun _ _ ⟨a, b⟩ => ⟨a, _, _, b⟩
theorem pl_push (q : Nat) (hq : Q3 q) (s : Cs) (hp : s.px = q) (p : Nat) (hp : p < 4) (tq : Nat) (ix : Bool) : RunDoes (rPat (pgOf q) (197 + 16 * p)) (pgOf q) s tq ix 2 (11) (s.push (s.pair (Cs.stacked p))) := by
 have hw : W2 (rPat (pgOf q) (197 + 16 * p)) ([80, 85, 83, 72]) (naT (psn q p)) ([]) = true := by
  exact k41
 obtain ⟨r, px, u⟩ := s
 obtain rfl : px = q := hp
 obtain ⟨h1, w1, qq, h2, h3, h4, h5, h6, h7, h8⟩ := W2.out hw
 rcases hq with rfl | rfl | rfl <;> obtain rfl | rfl | rfl | rfl := (by omega : p = 0 ∨ p = 1 ∨ p = 2 ∨ p = 3) <;> exact fun _ _ _ _ _ _ _ H => (xrun_push _ w1 (by omega) _ h2 h3 qq h4 h5 h6 _ _ h7 h8 (Nm.ofPair _ (by decide)) _ rfl _ rfl H).mono fun _ _ ⟨a, b⟩ => ⟨a, _, _, b⟩
theorem pl_jpcc (q : Nat) (hq : Q3 q) (s : Cs) (hp : s.px = q) (y : Nat) (hy : y < 8) (tq : Nat) (ix : Bool) : RunDoes (rPat (pgOf q) (194 + 8 * y)) (pgOf q) s tq ix 2 (10) (s.jumpTo (rgMet s.r.f y)) := by
 have hw : W2 (rPat (pgOf q) (194 + 8 * y)) ([74, 80]) (ccT y) ([110, 110]) = true := by
  exact k45
 obtain ⟨r, px, u⟩ := s
 obtain rfl : px = q := hp
 rcases hq with rfl | rfl | rfl <;> exact run2 hw (.jp_ _) (fun _ _ _ _ _ _ H => xjp_cc _ y rfl (by omega) _ rfl _ rfl _ _ _ rfl rfl rfl H) rfl rfl
theorem pl_jp (q : Nat) (hq : Q3 q) (s : Cs) (hp : s.px = q) (tq : Nat) (ix : Bool) : RunDoes (rPat (pgOf q) (195)) (pgOf q) s tq ix 2 (10) (s.jumpTo true) := by
 have hw : W2 (rPat (pgOf q) (195)) ([74, 80]) ([110, 110]) ([]) = true := by
  rcases hq with rfl | rfl | rfl <;> decide +kernel
 obtain ⟨r, px, u⟩ := s
 obtain rfl : px = q := hp
 rcases hq with rfl | rfl | rfl <;> exact run2 hw (.jp_ _) (fun _ _ _ _ _ _ H => xjp_nn _ _ _ rfl rfl rfl H) rfl rfl
theorem pl_outn (q : Nat) (hq : Q3 q) (s : Cs) (hp : s.px = q) (tq : Nat) (ix : Bool) : RunDoes (rPat (pgOf q) (211)) (pgOf q) s tq ix 2 (11) (s.outNext) := by
 have hw : W2 (rPat (pgOf q) (211)) ([79, 85, 84]) ([40, 110, 41]) ([65]) = true := by
  rcases hq with rfl | rfl | rfl <;> decide +kernel
 obtain ⟨r, px, u⟩ := s
 obtain rfl : px = q := hp
 rcases hq with rfl | rfl | rfl <;> exact run2 hw (.out_ _) (fun _ _ _ _ _ _ H => xport_on _ _ rfl rfl _ _ rfl rfl _ rfl _ rfl H) rfl rfl
theorem pl_inn (q : Nat) (hq : Q3 q) (s : Cs) (hp : s.px = q) (tq : Nat) (ix : Bool) : RunDoes (rPat (pgOf q) (219)) (pgOf q) s tq ix 2 (11) (s.inNext) := by
 have hw : W2 (rPat (pgOf q) (219)) ([73, 78]) ([65]) ([40, 110, 41]) = true := by
  rcases hq with rfl | rfl | rfl <;> decide +kernel
 obtain ⟨r, px, u⟩ := s
 obtain rfl : px = q := hp
 rcases hq with rfl | rfl | rfl <;> exact run2 hw (.in_ _) (fun _ _ _ _ _ _ H => xport_in _ _ rfl rfl _ _ _ rfl rfl rfl _ rfl _ rfl _ rfl H) rfl rfl
theorem pl_exsp (q : Nat) (hq : Q3 q) (s : Cs) (hp : s.px = q) (tq : Nat) (ix : Bool) : RunDoes (rPat (pgOf q) (227)) (pgOf q) s tq ix 4 (19) (s.swapTop) := by
 have hw : W2 (rPat (pgOf q) (227)) ([69, 88]) ([40, 83, 80, 41]) (naT (pn q 2)) = true := by
  rcases hq with rfl | rfl | rfl <;> decide +kernel
 obtain ⟨r, px, u⟩ := s
 obtain rfl : px = q := hp
 rcases hq with rfl | rfl | rfl <;> exact run2 hw (.ex_ _) (fun _ _ _ _ _ _ H => xexsp (Nm.ofPair _ (by decide)) _ _ _ _ rfl rfl rfl rfl _ rfl H) rfl rfl
theorem pl_exde (q : Nat) (hq : Q3 q) (s : Cs) (hp : s.px = q) (tq : Nat) (ix : Bool) : RunDoes (rPat (pgOf q) (235)) (pgOf q) s tq ix 0 (4) (s.swapDE) := by
 have hw : W2 (rPat (pgOf q) (235)) ([69, 88]) ([68, 69]) ([72, 76]) = true := by
  rcases hq with rfl | rfl | rfl <;> decide +kernel
 obtain ⟨r, px, u⟩ := s
 obtain rfl : px = q := hp
 rcases hq with rfl | rfl | rfl <;> exact (run2 hw (.ex_ _) (fun _ _ _ _ _ _ H => xexde _ _ rfl rfl _ rfl _ rfl H) rfl rfl).fit fun h => swap_de _ h
theorem pl_di (q : Nat) (hq : Q3 q) (s : Cs) (hp : s.px = q) (hdl : s.r.dl = false) (tq : Nat) (ix : Bool) : RunDoes (rPat (pgOf q) (243)) (pgOf q) s tq ix 0 (4) ((s.setQ1 false).setQ2 false) := by
 have hw : W1 (rPat (pgOf q) (243)) ([68, 73]) = true := by
  rcases hq with rfl | rfl | rfl <;> decide +kernel
 obtain ⟨r, px, u⟩ := s
 obtain rfl : px = q := hp
 have es : ∀ a f : Nat, r.a = a → r.f = f → (((((Cs.mk r px u).setQ1 false).setQ2 false).setDL false).setA a).setF f = ((Cs.mk r px u).setQ1 false).setQ2 false := by
  rintro a f rfl rfl
  cases r
  simp only at hdl
  subst hdl
  rfl
 rcases hq with rfl | rfl | rfl <;> exact runA hw (by decide) (.di_ _) (fun _ _ _ _ _ _ H => xal_di _ _ rfl rfl H) rfl (es _ _ rfl rfl)
theorem pl_ei (q : Nat) (hq : Q3 q) (s : Cs) (hp : s.px = q) (tq : Nat) (ix : Bool) : RunDoes (rPat (pgOf q) (251)) (pgOf q) s tq ix 0 (4) (((s.setQ1 true).setQ2 true).setDL true) := by
 have hw : W1 (rPat (pgOf q) (251)) ([69, 73]) = true := by
  rcases hq with rfl | rfl | rfl <;> decide +kernel
 obtain ⟨r, px, u⟩ := s
 obtain rfl : px = q := hp
 rcases hq with rfl | rfl | rfl <;> exact runA hw (by decide) (.ei_ _) (fun _ _ _ _ _ _ H => xal_ei _ _ rfl rfl H) rfl rfl
theorem pl_callcc (q : Nat) (hq : Q3 q) (s : Cs) (hp : s.px = q) (y : Nat) (hy : y < 8) (tq : Nat) (ix : Bool) : RunDoes (rPat (pgOf q) (196 + 8 * y)) (pgOf q) s tq ix 4 (((cond (rgMet s.r.f y) 17 10 : Nat) : Int)) (s.callTo (rgMet s.r.f y)) := by
 have hw : W2 (rPat (pgOf q) (196 + 8 * y)) ([67, 65, 76, 76]) (ccT y) ([110, 110]) = true := by
  exact k45
 obtain ⟨r, px, u⟩ := s
 obtain rfl : px = q := hp
 rcases hq with rfl | rfl | rfl <;> exact run2 hw (.call_ _) (fun _ _ _ _ _ _ H => xcall_cc _ y rfl (by omega) _ rfl _ rfl _ _ _ rfl rfl rfl _ rfl _ rfl H) (cast_cond _ 17 10) (congrArg (fun z => cond _ z _) (call_eq _ _ rfl))
theorem pl_call (q : Nat) (hq : Q3 q) (s : Cs) (hp : s.px = q) (tq : Nat) (ix : Bool) : RunDoes (rPat (pgOf q) (205)) (pgOf q) s tq ix 4 (17) (s.callTo true) := by
 have hw : W2 (rPat (pgOf q) (205)) ([67, 65, 76, 76]) ([110, 110]) ([]) = true := by
  rcases hq with rfl | rfl | rfl <;> decide +kernel
 obtain ⟨r, px, u⟩ := s
 obtain rfl : px = q := hp
 rcases hq with rfl | rfl | rfl <;> exact run2 hw (.call_ _) (fun _ _ _ _ _ _ H => xcall_nn _ _ _ rfl rfl rfl _ rfl _ rfl H) rfl (call_eq _ _ rfl)
theorem pl_rst (q : Nat) (hq : Q3 q) (s : Cs) (hp : s.px = q) (y : Nat) (hy : y < 8) (tq : Nat) (ix : Bool) : RunDoes (rPat (pgOf q) (199 + 8 * y)) (pgOf q) s tq ix 2 (11) (s.start (y * 8)) := by
 have hw : W2 (rPat (pgOf q) (199 + 8 * y)) ([82, 83, 84]) (dec3 (8 * y)) ([]) = true := by
  exact k45
 obtain ⟨r, px, u⟩ := s
 obtain rfl : px = q := hp
 rcases hq with rfl | rfl | rfl <;> obtain rfl | rfl | rfl | rfl | rfl | rfl | rfl | rfl := (by omega : y = 0 ∨ y = 1 ∨ y = 2 ∨ y = 3 ∨ y = 4 ∨ y = 5 ∨ y = 6 ∨ y = 7) <;> exact run2 hw (.rst_ _) (fun _ _ _ _ _ _ H => xrst _ (by decide) (by decide) _ rfl _ rfl _ _ rfl rfl H) rfl rfl
end
end Go.Proofs.YtgdeeiimkhjfiaaGreatDoor
