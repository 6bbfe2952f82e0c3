import Derived.Test.YtgdeeiimkhjfiaaGreatDoorV39
set_option maxRecDepth 100000
set_option maxHeartbeats 6400000
namespace Go.Proofs.YtgdeeiimkhjfiaaGreatDoor
open Go.RowKit
section
variable {W0 w : World} {x b tq n c : Nat} {s : Cs} {ix : Bool} {pg : Int} {l : Zj}
theorem YH {A B : Tx} {k : Nat} {c : Int} {s' : Cs} {tq' : Nat} {ix' : Bool} (hAB : (A == [40, 110, 110, 41] || B == [40, 110, 110, 41]) = true) (D : zn 83 [.string ⟨A.toArray⟩, .string ⟨B.toArray⟩] s tq ix pg k c s' tq' ix') (H : Hid (Ex W0 w x b s tq ix pg l (n + k))) :
  CX 45 #[.pointer (some ⟨x, 0, none⟩), .string ⟨A.toArray⟩, .string ⟨B.toArray⟩] w (.int .i64 c) fun w' => Hid (Ex W0 w' x b s' tq' ix' pg l n) := by
 have HD := Zb D
 obtain ⟨B1, h1⟩ : ∃ B1, (A == [40, 110, 110, 41]) = B1 := ⟨_, rfl⟩
 obtain ⟨B2, h2⟩ : ∃ B2, (B == [40, 110, 110, 41]) = B2 := ⟨_, rfl⟩
 rw [h1, h2] at hAB
 clear D
 cases B1 <;> cases B2
 ·cases hAB
 all_goals
  clear hAB
  go_enter Tryz.func45, Tryz.ntmps45
  go_wp2_with (first | (go_at_call 83; (with_reducible refine (HD.out _ _ _ _ _ _ H).mono ?_); rintro e w' ⟨rfl, H'⟩; clear H; have H := H'; clear H'))
  go_ret
  exact ⟨rfl, H⟩
theorem Zi7 (T : Cs) (v : Nat) (h : T.r.wz = v) : T.setPC v = T.goTo v := by
 obtain ⟨r, px, u⟩ := T
 cases r
 simp only at h
 subst h
 rfl
theorem Zi8 (S : Cs) (z : Nat) : (S.push z).r.wz = S.r.wz := by unfold Cs.push; simp only []
theorem ZdI (S : Cs) (v : Nat) (h : S.r.wz = v) : (S.push S.r.pc).setPC v = S.start v := Zi7 _ v ((Zi8 _ _).trans h)
theorem vm (a b : Nat) (h : b < 256) : (a * 256 + b) / 256 = a := by omega
theorem vn (a b : Nat) (h : b < 256) : (a * 256 + b) % 256 = b := by omega
theorem Zi9 (s : Cs) (h : s.r.Fits) : ((s.setR { ({ s.r with d := (s.r.h * 256 + s.r.l) / 256, e := (s.r.h * 256 + s.r.l) % 256 } : Rg) with h := (s.r.d * 256 + s.r.e) / 256, l := (s.r.d * 256 + s.r.e) % 256 }) : Cs) = s.swapDE := by
 have e1 := vm s.r.h s.r.l h.l
 have e2 := vn s.r.h s.r.l h.l
 have e3 := vm s.r.d s.r.e h.e
 have e4 := vn s.r.d s.r.e h.e
 rw [e1, e2, e3, e4]; rfl
theorem k56 {P : Prop} (h : P := by
 revert c1 c0 hz z hy y; rcases hq with rfl | rfl | rfl <;> decide +kernel) : P := h
theorem Zja (q : Nat) (hq : Q3 q) (s : Cs) (hp : s.px = q) (y : Nat) (hy : y < 8) (z : Nat) (hz : z < 8) (c0 : ¬ y = 6) (c1 : ¬ z = 6) (tq : Nat) (ix : Bool) : Zg (Zn (Zr q) (64 + 8 * y + z)) (Zr q) s tq ix 0 (4) (s.setOne (y : Int) (s.one (z : Int))) := by
 have hw : W2 (Zn (Zr q) (64 + 8 * y + z)) ([76, 68]) (leT y q) (leT z q) = true := by
  exact k56
 obtain ⟨r, px, u⟩ := s
 obtain rfl : px = q := hp
 rcases hq with rfl | rfl | rfl <;> exact Z4 hw (.ld_ _) (fun _ _ _ _ _ _ H => Zll (Nm.ofLet y _ (by omega)) (YJ y _ (by omega) (by decide)) (Nm.ofLet z _ (by omega)) (YJ z _ (by omega) (by decide)) _ rfl _ rfl H) rfl rfl
theorem Zjb (q : Nat) (hq : Q3 q) (s : Cs) (hp : s.px = q) (tq : Nat) (ix : Bool) : Zg (Zn (Zr q) (118)) (Zr q) s tq ix 0 (4) (s.setHT true) := by
 have hw : W1 (Zn (Zr q) (118)) ([72, 65, 76, 84]) = true := by
  rcases hq with rfl | rfl | rfl <;> decide +kernel
 obtain ⟨r, px, u⟩ := s
 obtain rfl : px = q := hp
 rcases hq with rfl | rfl | rfl <;> exact Zbc hw (by decide) (.halt_ _) (fun _ _ _ _ _ _ H => ZfC _ _ rfl rfl H) rfl rfl
theorem ZfM (q : Nat) (hq : Q3 q) (s : Cs) (hp : s.px = q) (y : Nat) (hy : y < 8) (z : Nat) (hz : z < 8) (c0 : y = 0 ∨ y = 1 ∨ y = 3) (c1 : ¬ z = 6) (tq : Nat) (ix : Bool) : Zg (Zn (Zr q) (128 + 8 * y + z)) (Zr q) s tq ix 0 (4) (s.sum y (s.one (z : Int))) := by
 have hw : W2 (Zn (Zr q) (128 + 8 * y + z)) (suT.getD y []) (sA y (leT z q)) (sB y (leT z q)) = true := by
  exact k56
 rw [show sA y (leT z q) = [65] from if_pos c0, show sB y (leT z q) = leT z q from if_pos c0] at hw
 obtain ⟨r, px, u⟩ := s
 obtain rfl : px = q := hp
 rcases hq with rfl | rfl | rfl <;> exact Z4 hw ((KH _ _ _ _ y hy)) (fun _ _ _ _ _ _ H => ZgK (Nm.ofLet z _ (by omega)) (YJ z _ (by omega) (by decide)) y hy _ rfl _ _ rfl rfl _ _ _ rfl rfl false (YJ z _ (by omega) (by decide) [] (by decide)) rfl rfl rfl H) rfl rfl
theorem ZfN (q : Nat) (hq : Q3 q) (s : Cs) (hp : s.px = q) (y : Nat) (hy : y < 8) (c0 : y = 0 ∨ y = 1 ∨ y = 3) (tq : Nat) (ix : Bool) : Zg (Zn (Zr q) (198 + 8 * y)) (Zr q) s tq ix 1 (7) (s.next.sum y s.nextV) := by
 have hw : W2 (Zn (Zr q) (198 + 8 * y)) (suT.getD y []) (sA y ([110])) (sB y ([110])) = true := by
  exact k33
 rw [show sA y ([110]) = [65] from if_pos c0, show sB y ([110]) = [110] from if_pos c0] at hw
 obtain ⟨r, px, u⟩ := s
 obtain rfl : px = q := hp
 rcases hq with rfl | rfl | rfl <;> exact Z4 hw ((KH _ _ _ _ y hy)) (fun _ _ _ _ _ _ H => ZgM _ rfl y hy _ rfl _ _ rfl rfl _ _ _ rfl rfl false rfl rfl rfl rfl H) rfl rfl
theorem ZfO (q : Nat) (hq : Q3 q) (s : Cs) (hp : s.px = q) (y : Nat) (hy : y < 8) (z : Nat) (hz : z < 8) (c0 : ¬ (y = 0 ∨ y = 1 ∨ y = 3)) (c1 : ¬ z = 6) (tq : Nat) (ix : Bool) : Zg (Zn (Zr q) (128 + 8 * y + z)) (Zr q) s tq ix 0 (4) (s.sum y (s.one (z : Int))) := by
 have hw : W2 (Zn (Zr q) (128 + 8 * y + z)) (suT.getD y []) (sA y (leT z q)) (sB y (leT z q)) = true := by
  exact k56
 rw [show sA y (leT z q) = leT z q from if_neg c0, show sB y (leT z q) = [] from if_neg c0] at hw
 obtain ⟨r, px, u⟩ := s
 obtain rfl : px = q := hp
 rcases hq with rfl | rfl | rfl <;> exact Z4 hw ((KH _ _ _ _ y hy)) (fun _ _ _ _ _ _ H => ZgK (Nm.ofLet z _ (by omega)) (YJ z _ (by omega) (by decide)) y hy _ rfl _ _ rfl rfl _ _ _ rfl rfl true rfl (UY z _ (by omega) (by decide)) rfl rfl H) rfl rfl
theorem ZfP (q : Nat) (hq : Q3 q) (s : Cs) (hp : s.px = q) (y : Nat) (hy : y < 8) (c0 : ¬ (y = 0 ∨ y = 1 ∨ y = 3)) (tq : Nat) (ix : Bool) : Zg (Zn (Zr q) (198 + 8 * y)) (Zr q) s tq ix 1 (7) (s.next.sum y s.nextV) := by
 have hw : W2 (Zn (Zr q) (198 + 8 * y)) (suT.getD y []) (sA y ([110])) (sB y ([110])) = true := by
  exact k33
 rw [show sA y ([110]) = [110] from if_neg c0, show sB y ([110]) = [] from if_neg c0] at hw
 obtain ⟨r, px, u⟩ := s
 obtain rfl : px = q := hp
 rcases hq with rfl | rfl | rfl <;> exact Z4 hw ((KH _ _ _ _ y hy)) (fun _ _ _ _ _ _ H => ZgM _ rfl y hy _ rfl _ _ rfl rfl _ _ _ rfl rfl true rfl rfl rfl rfl H) rfl rfl
theorem Zjc (q : Nat) (hq : Q3 q) (s : Cs) (hp : s.px = q) (y : Nat) (hy : y < 8) (c0 : ¬ y = 6) (tq : Nat) (ix : Bool) : Zg (Zn (Zr q) (4 + 8 * y)) (Zr q) s tq ix 0 (4) ((s.setOne (y : Int) (Cs.countV false (s.one (y : Int)))).setF (Cs.countF false (s.one (y : Int)) s.r.f)) := by
 have hw : W2 (Zn (Zr q) (4 + 8 * y)) ([73, 78, 67]) (leT y q) ([]) = true := by
  exact k33
 obtain ⟨r, px, u⟩ := s
 obtain rfl : px = q := hp
 rcases hq with rfl | rfl | rfl <;> exact Z4 hw (.inc_ _) (fun _ _ _ _ _ _ H => ZaN (Nm.ofLet y _ (by omega)) (YJ y _ (by omega) (by decide)) (UY y _ (by omega) (by decide)) _ _ rfl rfl _ _ rfl rfl _ rfl H) rfl rfl
theorem k41 {P : Prop} (h : P := by
 revert hp p; rcases hq with rfl | rfl | rfl <;> decide +kernel) : P := h
theorem UZ (q : Nat) (hq : Q3 q) (s : Cs) (hp : s.px = q) (p : Nat) (hp : p < 4) (tq : Nat) (ix : Bool) : Zg (Zn (Zr q) (3 + 16 * p)) (Zr q) s tq ix 0 (6) (s.setPair (p : Int) (up1 (s.pair (p : Int)))) := by
 have hw : W2 (Zn (Zr q) (3 + 16 * p)) ([73, 78, 67]) (naT (pn q p)) ([]) = true := by
  exact k41
 obtain ⟨r, px, u⟩ := s
 obtain rfl : px = q := hp
 rcases hq with rfl | rfl | rfl <;> obtain rfl | rfl | rfl | rfl := (by omega : p = 0 ∨ p = 1 ∨ p = 2 ∨ p = 3) <;> exact Z4 hw (.inc_ _) (fun _ _ _ _ _ _ H => ZaM (Nm.ofPair _ (by decide)) (Zb (pair_na _ (by decide))) _ _ rfl rfl _ rfl H) rfl rfl
theorem Zjd (q : Nat) (hq : Q3 q) (s : Cs) (hp : s.px = q) (y : Nat) (hy : y < 8) (c0 : ¬ y = 6) (tq : Nat) (ix : Bool) : Zg (Zn (Zr q) (5 + 8 * y)) (Zr q) s tq ix 0 (4) ((s.setOne (y : Int) (Cs.countV true (s.one (y : Int)))).setF (Cs.countF true (s.one (y : Int)) s.r.f)) := by
 have hw : W2 (Zn (Zr q) (5 + 8 * y)) ([68, 69, 67]) (leT y q) ([]) = true := by
  exact k33
 obtain ⟨r, px, u⟩ := s
 obtain rfl : px = q := hp
 rcases hq with rfl | rfl | rfl <;> exact Z4 hw (.dec_ _) (fun _ _ _ _ _ _ H => ZaQ (Nm.ofLet y _ (by omega)) (YJ y _ (by omega) (by decide)) (UY y _ (by omega) (by decide)) _ _ rfl rfl _ _ rfl rfl _ rfl H) rfl rfl
theorem U0 (q : Nat) (hq : Q3 q) (s : Cs) (hp : s.px = q) (p : Nat) (hp : p < 4) (tq : Nat) (ix : Bool) : Zg (Zn (Zr q) (11 + 16 * p)) (Zr q) s tq ix 0 (6) (s.setPair (p : Int) (dn1 (s.pair (p : Int)))) := by
 have hw : W2 (Zn (Zr q) (11 + 16 * p)) ([68, 69, 67]) (naT (pn q p)) ([]) = true := by
  exact k41
 obtain ⟨r, px, u⟩ := s
 obtain rfl : px = q := hp
 rcases hq with rfl | rfl | rfl <;> obtain rfl | rfl | rfl | rfl := (by omega : p = 0 ∨ p = 1 ∨ p = 2 ∨ p = 3) <;> exact Z4 hw (.dec_ _) (fun _ _ _ _ _ _ H => ZaP (Nm.ofPair _ (by decide)) (Zb (pair_na _ (by decide))) _ _ rfl rfl _ rfl H) rfl rfl
theorem Zje (q : Nat) (hq : Q3 q) (s : Cs) (hp : s.px = q) (y : Nat) (hy : y < 8) (c0 : ¬ y = 6) (tq : Nat) (ix : Bool) : Zg (Zn (Zr q) (6 + 8 * y)) (Zr q) s tq ix 1 (7) (s.next.setOne (y : Int) s.nextV) := by
 have hw : W2 (Zn (Zr q) (6 + 8 * y)) ([76, 68]) (leT y q) ([110]) = true := by
  exact k33
 obtain ⟨r, px, u⟩ := s
 obtain rfl : px = q := hp
 rcases hq with rfl | rfl | rfl <;> exact Z4 hw (.ld_ _) (fun _ _ _ _ _ _ H => Zlo (Nm.ofLet y _ (by omega)) (YJ y _ (by omega) (by decide)) _ _ rfl rfl _ rfl H) rfl rfl
theorem U1 (q : Nat) (hq : Q3 q) (s : Cs) (hp : s.px = q) (p : Nat) (hp : p < 4) (tq : Nat) (ix : Bool) : Zg (Zn (Zr q) (1 + 16 * p)) (Zr q) s tq ix 2 (10) (s.nextNum.setPair (p : Int) s.nextNumV) := by
 have hw : W2 (Zn (Zr q) (1 + 16 * p)) ([76, 68]) (naT (pn q p)) ([110, 110]) = true := by
  exact k41
 obtain ⟨r, px, u⟩ := s
 obtain rfl : px = q := hp
 rcases hq with rfl | rfl | rfl <;> obtain rfl | rfl | rfl | rfl := (by omega : p = 0 ∨ p = 1 ∨ p = 2 ∨ p = 3) <;> exact Z4 hw (.ld_ _) (fun _ _ _ _ _ _ H => Zlq (Nm.ofPair _ (by decide)) (na_nn _ (by decide)) _ rfl _ _ rfl rfl _ rfl H) rfl rfl
theorem U2 (q : Nat) (hq : Q3 q) (s : Cs) (hp : s.px = q) (p : Nat) (hp : p < 4) (tq : Nat) (ix : Bool) : Zg (Zn (Zr q) (9 + 16 * p)) (Zr q) s tq ix 0 (11) (s.addPair (p : Int)) := by
 have hw : W2 (Zn (Zr q) (9 + 16 * p)) ([65, 68, 68]) (naT (pn q 2)) (naT (pn q p)) = true := by
  exact k41
 obtain ⟨r, px, u⟩ := s
 obtain rfl : px = q := hp
 rcases hq with rfl | rfl | rfl <;> obtain rfl | rfl | rfl | rfl := (by omega : p = 0 ∨ p = 1 ∨ p = 2 ∨ p = 3) <;> exact Z4 hw (.add_ _) (fun _ _ _ _ _ _ H => ZdC (Nm.ofPair _ (by decide)) (Nm.ofPair _ (by decide)) (Zb (pair_na _ (by decide))) _ _ _ _ rfl rfl rfl _ rfl rfl _ _ rfl rfl _ rfl H) rfl rfl
theorem ZfQ (q : Nat) (hq : Q3 q) (s : Cs) (hp : s.px = q) (tq : Nat) (ix : Bool) : Zg (Zn (Zr q) (2)) (Zr q) s tq ix 1 (7) (s.moveA 0 (s.pair 0)) := by
 have hw : W2 (Zn (Zr q) (2)) ([76, 68]) ([40, 66, 67, 41]) ([65]) = true := by
  rcases hq with rfl | rfl | rfl <;> decide +kernel
 obtain ⟨r, px, u⟩ := s
 obtain rfl : px = q := hp
 rcases hq with rfl | rfl | rfl <;> exact Z4 hw (.ld_ _) (fun _ _ _ _ _ _ H => ZiN _ _ _ rfl rfl rfl _ (congrArg (_ * 256 + ·) (ZdH _)) H) rfl rfl
theorem ZfR (q : Nat) (hq : Q3 q) (s : Cs) (hp : s.px = q) (tq : Nat) (ix : Bool) : Zg (Zn (Zr q) (10)) (Zr q) s tq ix 1 (7) (s.moveA 1 (s.pair 0)) := by
 have hw : W2 (Zn (Zr q) (10)) ([76, 68]) ([65]) ([40, 66, 67, 41]) = true := by
  rcases hq with rfl | rfl | rfl <;> decide +kernel
 obtain ⟨r, px, u⟩ := s
 obtain rfl : px = q := hp
 rcases hq with rfl | rfl | rfl <;> exact Z4 hw (.ld_ _) (fun _ _ _ _ _ _ H => ZiO _ _ _ _ rfl rfl rfl rfl H) rfl rfl
theorem ZfS (q : Nat) (hq : Q3 q) (s : Cs) (hp : s.px = q) (tq : Nat) (ix : Bool) : Zg (Zn (Zr q) (18)) (Zr q) s tq ix 1 (7) (s.moveA 0 (s.pair 1)) := by
 have hw : W2 (Zn (Zr q) (18)) ([76, 68]) ([40, 68, 69, 41]) ([65]) = true := by
  rcases hq with rfl | rfl | rfl <;> decide +kernel
 obtain ⟨r, px, u⟩ := s
 obtain rfl : px = q := hp
 rcases hq with rfl | rfl | rfl <;> exact Z4 hw (.ld_ _) (fun _ _ _ _ _ _ H => ZiP _ _ _ rfl rfl rfl _ (congrArg (_ * 256 + ·) (ZdH _)) H) rfl rfl
theorem ZfT (q : Nat) (hq : Q3 q) (s : Cs) (hp : s.px = q) (tq : Nat) (ix : Bool) : Zg (Zn (Zr q) (26)) (Zr q) s tq ix 1 (7) (s.moveA 1 (s.pair 1)) := by
 have hw : W2 (Zn (Zr q) (26)) ([76, 68]) ([65]) ([40, 68, 69, 41]) = true := by
  rcases hq with rfl | rfl | rfl <;> decide +kernel
 obtain ⟨r, px, u⟩ := s
 obtain rfl : px = q := hp
 rcases hq with rfl | rfl | rfl <;> exact Z4 hw (.ld_ _) (fun _ _ _ _ _ _ H => ZiQ _ _ _ _ rfl rfl rfl rfl H) rfl rfl
theorem Zjf (q : Nat) (hq : Q3 q) (s : Cs) (hp : s.px = q) (tq : Nat) (ix : Bool) : Zg (Zn (Zr q) (34)) (Zr q) s tq ix 4 (16) (s.movePair 0 2) := by
 have hw : W2 (Zn (Zr q) (34)) ([76, 68]) ([40, 110, 110, 41]) (naT (pn q 2)) = true := by
  rcases hq with rfl | rfl | rfl <;> decide +kernel
 obtain ⟨r, px, u⟩ := s
 obtain rfl : px = q := hp
 rcases hq with rfl | rfl | rfl <;> exact Z4 hw (.ld_ _) (fun _ _ _ _ _ _ H => YH rfl (fun _ _ _ _ _ _ H => zk _ _ _ _ rfl rfl rfl rfl (Nm.ofPair _ (by decide)) (na_a _ (by decide)) _ rfl _ rfl _ rfl H) H) rfl rfl
theorem Zjg (q : Nat) (hq : Q3 q) (s : Cs) (hp : s.px = q) (tq : Nat) (ix : Bool) : Zg (Zn (Zr q) (42)) (Zr q) s tq ix 4 (16) (s.movePair 1 2) := by
 have hw : W2 (Zn (Zr q) (42)) ([76, 68]) (naT (pn q 2)) ([40, 110, 110, 41]) = true := by
  rcases hq with rfl | rfl | rfl <;> decide +kernel
 obtain ⟨r, px, u⟩ := s
 obtain rfl : px = q := hp
 rcases hq with rfl | rfl | rfl <;> exact Z4 hw (.ld_ _) (fun _ _ _ _ _ _ H => YH rfl (fun _ _ _ _ _ _ H => zl _ _ _ _ rfl rfl rfl rfl (Nm.ofPair _ (by decide)) (na_a _ (by decide)) (na_nn _ (by decide)) _ _ rfl rfl _ rfl _ rfl H) H) rfl rfl
theorem Zjh (q : Nat) (hq : Q3 q) (s : Cs) (hp : s.px = q) (tq : Nat) (ix : Bool) : Zg (Zn (Zr q) (50)) (Zr q) s tq ix 3 (13) (s.nextNum.moveA 0 s.nextNumV) := by
 have hw : W2 (Zn (Zr q) (50)) ([76, 68]) ([40, 110, 110, 41]) ([65]) = true := by
  rcases hq with rfl | rfl | rfl <;> decide +kernel
 obtain ⟨r, px, u⟩ := s
 obtain rfl : px = q := hp
 rcases hq with rfl | rfl | rfl <;> exact Z4 hw (.ld_ _) (fun _ _ _ _ _ _ H => YH rfl (fun _ _ _ _ _ _ H => Zlt _ _ _ _ rfl rfl rfl rfl _ rfl _ rfl _ rfl H) H) rfl rfl
theorem Zji (q : Nat) (hq : Q3 q) (s : Cs) (hp : s.px = q) (tq : Nat) (ix : Bool) : Zg (Zn (Zr q) (58)) (Zr q) s tq ix 3 (13) (s.nextNum.moveA 1 s.nextNumV) := by
 have hw : W2 (Zn (Zr q) (58)) ([76, 68]) ([65]) ([40, 110, 110, 41]) = true := by
  rcases hq with rfl | rfl | rfl <;> decide +kernel
 obtain ⟨r, px, u⟩ := s
 obtain rfl : px = q := hp
 rcases hq with rfl | rfl | rfl <;> exact Z4 hw (.ld_ _) (fun _ _ _ _ _ _ H => YH rfl (fun _ _ _ _ _ _ H => Zls _ _ _ _ rfl rfl rfl rfl _ _ rfl rfl H) H) rfl rfl
theorem ZfU (q : Nat) (hq : Q3 q) (s : Cs) (hp : s.px = q) (tq : Nat) (ix : Bool) : Zg (Zn (Zr q) (7)) (Zr q) s tq ix 0 (4) (s.quick 0) := by
 have hw : W1 (Zn (Zr q) (7)) ([82, 76, 67, 65]) = true := by
  rcases hq with rfl | rfl | rfl <;> decide +kernel
 obtain ⟨r, px, u⟩ := s
 obtain rfl : px = q := hp
 rcases hq with rfl | rfl | rfl <;> exact Zbc hw (by decide) (.rlca_ _) (fun _ _ _ _ _ _ H => ZfA _ _ rfl rfl _ _ rfl rfl H) rfl rfl
theorem ZfV (q : Nat) (hq : Q3 q) (s : Cs) (hp : s.px = q) (tq : Nat) (ix : Bool) : Zg (Zn (Zr q) (15)) (Zr q) s tq ix 0 (4) (s.quick 1) := by
 have hw : W1 (Zn (Zr q) (15)) ([82, 82, 67, 65]) = true := by
  rcases hq with rfl | rfl | rfl <;> decide +kernel
 obtain ⟨r, px, u⟩ := s
 obtain rfl : px = q := hp
 rcases hq with rfl | rfl | rfl <;> exact Zbc hw (by decide) (.rrca_ _) (fun _ _ _ _ _ _ H => ZfB _ _ rfl rfl _ _ rfl rfl H) rfl rfl
theorem Zjj (q : Nat) (hq : Q3 q) (s : Cs) (hp : s.px = q) (tq : Nat) (ix : Bool) : Zg (Zn (Zr q) (23)) (Zr q) s tq ix 0 (4) (s.quick 2) := by
 have hw : W1 (Zn (Zr q) (23)) ([82, 76, 65]) = true := by
  rcases hq with rfl | rfl | rfl <;> decide +kernel
 obtain ⟨r, px, u⟩ := s
 obtain rfl : px = q := hp
 rcases hq with rfl | rfl | rfl <;> exact Zbc hw (by decide) (.rla_ _) (fun _ _ _ _ _ _ H => ZiW _ _ rfl rfl _ _ rfl rfl H) rfl rfl
theorem Zjk (q : Nat) (hq : Q3 q) (s : Cs) (hp : s.px = q) (tq : Nat) (ix : Bool) : Zg (Zn (Zr q) (31)) (Zr q) s tq ix 0 (4) (s.quick 3) := by
 have hw : W1 (Zn (Zr q) (31)) ([82, 82, 65]) = true := by
  rcases hq with rfl | rfl | rfl <;> decide +kernel
 obtain ⟨r, px, u⟩ := s
 obtain rfl : px = q := hp
 rcases hq with rfl | rfl | rfl <;> exact Zbc hw (by decide) (.rra_ _) (fun _ _ _ _ _ _ H => ZiX _ _ rfl rfl _ _ rfl rfl H) rfl rfl
theorem Zjl (q : Nat) (hq : Q3 q) (s : Cs) (hp : s.px = q) (tq : Nat) (ix : Bool) : Zg (Zn (Zr q) (39)) (Zr q) s tq ix 0 (4) (s.quick 4) := by
 have hw : W1 (Zn (Zr q) (39)) ([68, 65, 65]) = true := by
  rcases hq with rfl | rfl | rfl <;> decide +kernel
 obtain ⟨r, px, u⟩ := s
 obtain rfl : px = q := hp
 rcases hq with rfl | rfl | rfl <;> exact Zbc hw (by decide) (.daa_ _) (fun _ _ _ _ _ _ H => ZiY _ _ rfl rfl _ _ rfl rfl H) rfl rfl
theorem Zjm (q : Nat) (hq : Q3 q) (s : Cs) (hp : s.px = q) (tq : Nat) (ix : Bool) : Zg (Zn (Zr q) (47)) (Zr q) s tq ix 0 (4) (s.quick 5) := by
 have hw : W1 (Zn (Zr q) (47)) ([67, 80, 76]) = true := by
  rcases hq with rfl | rfl | rfl <;> decide +kernel
 obtain ⟨r, px, u⟩ := s
 obtain rfl : px = q := hp
 rcases hq with rfl | rfl | rfl <;> exact Zbc hw (by decide) (.cpl_ _) (fun _ _ _ _ _ _ H => ZiZ _ _ rfl rfl _ _ rfl rfl H) rfl rfl
theorem Zjn (q : Nat) (hq : Q3 q) (s : Cs) (hp : s.px = q) (tq : Nat) (ix : Bool) : Zg (Zn (Zr q) (55)) (Zr q) s tq ix 0 (4) (s.quick 6) := by
 have hw : W1 (Zn (Zr q) (55)) ([83, 67, 70]) = true := by
  rcases hq with rfl | rfl | rfl <;> decide +kernel
 obtain ⟨r, px, u⟩ := s
 obtain rfl : px = q := hp
 rcases hq with rfl | rfl | rfl <;> exact Zbc hw (by decide) (.scf_ _) (fun _ _ _ _ _ _ H => Zi0 _ _ rfl rfl _ _ rfl rfl H) rfl rfl
theorem Zjo (q : Nat) (hq : Q3 q) (s : Cs) (hp : s.px = q) (tq : Nat) (ix : Bool) : Zg (Zn (Zr q) (63)) (Zr q) s tq ix 0 (4) (s.quick 7) := by
 have hw : W1 (Zn (Zr q) (63)) ([67, 67, 70]) = true := by
  rcases hq with rfl | rfl | rfl <;> decide +kernel
 obtain ⟨r, px, u⟩ := s
 obtain rfl : px = q := hp
 rcases hq with rfl | rfl | rfl <;> exact Zbc hw (by decide) (.ccf_ _) (fun _ _ _ _ _ _ H => Zi1 _ _ rfl rfl _ _ rfl rfl H) rfl rfl
theorem ZlV (q : Nat) (hq : Q3 q) (s : Cs) (hp : s.px = q) (tq : Nat) (ix : Bool) : Zg (Zn (Zr q) (0)) (Zr q) s tq ix 0 (4) (s) := by
 have hw : W1 (Zn (Zr q) (0)) ([78, 79, 80]) = true := by
  rcases hq with rfl | rfl | rfl <;> decide +kernel
 obtain ⟨r, px, u⟩ := s
 obtain rfl : px = q := hp
 rcases hq with rfl | rfl | rfl <;> exact Zbc hw (by decide) (.nop_ _) (fun _ _ _ _ _ _ H => Zi2 _ _ rfl rfl H) rfl rfl
theorem Zjp (q : Nat) (hq : Q3 q) (s : Cs) (hp : s.px = q) (tq : Nat) (ix : Bool) : Zg (Zn (Zr q) (8)) (Zr q) s tq ix 0 (4) (s.setR (s.r.swap false)) := by
 have hw : W2 (Zn (Zr q) (8)) ([69, 88]) ([65, 70]) ([65, 70, 39]) = true := by
  rcases hq with rfl | rfl | rfl <;> decide +kernel
 obtain ⟨r, px, u⟩ := s
 obtain rfl : px = q := hp
 rcases hq with rfl | rfl | rfl <;> exact Z4 hw (.ex_ _) (fun _ _ _ _ _ _ H => xexaf _ rfl H) rfl rfl
theorem Zjq (q : Nat) (hq : Q3 q) (s : Cs) (hp : s.px = q) (tq : Nat) (ix : Bool) : Zg (Zn (Zr q) (16)) (Zr q) s tq ix 1 (((Cs.hopC (decide (s.decB ≠ 0)) 13 : Nat) : Int)) ((s.setB s.decB).hop (decide (s.decB ≠ 0))) := by
 have hw : W2 (Zn (Zr q) (16)) ([68, 74, 78, 90]) ([101]) ([]) = true := by
  rcases hq with rfl | rfl | rfl <;> decide +kernel
 obtain ⟨r, px, u⟩ := s
 obtain rfl : px = q := hp
 rcases hq with rfl | rfl | rfl <;> exact Z4 hw (.djnz_ _) (fun _ _ _ _ _ _ H => xdjnz _ _ rfl rfl _ rfl _ _ rfl rfl _ rfl _ rfl _ rfl H) (ZC _ 13 8) rfl
theorem pl_jr (q : Nat) (hq : Q3 q) (s : Cs) (hp : s.px = q) (tq : Nat) (ix : Bool) : Zg (Zn (Zr q) (24)) (Zr q) s tq ix 1 (12) (s.hop true) := by
 have hw : W2 (Zn (Zr q) (24)) ([74, 82]) ([101]) ([]) = true := by
  rcases hq with rfl | rfl | rfl <;> decide +kernel
 obtain ⟨r, px, u⟩ := s
 obtain rfl : px = q := hp
 rcases hq with rfl | rfl | rfl <;> exact Z4 hw (.jr_ _) (fun _ _ _ _ _ _ H => xjr _ _ rfl rfl _ rfl _ rfl H) rfl rfl
theorem k45 {P : Prop} (h : P := by
 revert hy y; rcases hq with rfl | rfl | rfl <;> decide +kernel) : P := h
theorem U3 (q : Nat) (hq : Q3 q) (s : Cs) (hp : s.px = q) (y : Nat) (hy : y < 4) (tq : Nat) (ix : Bool) : Zg (Zn (Zr q) (32 + 8 * y)) (Zr q) s tq ix 1 (((Cs.hopC (ZH s.r.f y) 12 : Nat) : Int)) (s.hop (ZH s.r.f y)) := by
 have hw : W2 (Zn (Zr q) (32 + 8 * y)) ([74, 82]) (ccT y) ([101]) = true := by
  exact k45
 obtain ⟨r, px, u⟩ := s
 obtain rfl : px = q := hp
 rcases hq with rfl | rfl | rfl <;> exact Z4 hw (.jr_ _) (fun _ _ _ _ _ _ H => ZlA _ y rfl (by omega) _ rfl _ rfl _ _ rfl rfl _ rfl _ rfl H) (ZC _ 12 7) rfl
theorem ZfW (q : Nat) (hq : Q3 q) (s : Cs) (hp : s.px = q) (y : Nat) (hy : y < 8) (tq : Nat) (ix : Bool) : Zg (Zn (Zr q) (192 + 8 * y)) (Zr q) s tq ix 2 (((cond (ZH s.r.f y) 11 5 : Nat) : Int)) (s.backIf (ZH s.r.f y)) := by
 have hw : W2 (Zn (Zr q) (192 + 8 * y)) ([82, 69, 84]) (ccT y) ([]) = true := by
  exact k45
 obtain ⟨r, px, u⟩ := s
 obtain rfl : px = q := hp
 rcases hq with rfl | rfl | rfl <;> exact Z4 hw (.ret_ _) (fun _ _ _ _ _ _ H => ZiT _ y rfl (by omega) _ rfl _ rfl _ _ _ rfl rfl rfl H) (ZC _ 11 5) rfl
theorem ZlW (q : Nat) (hq : Q3 q) (s : Cs) (hp : s.px = q) (tq : Nat) (ix : Bool) : Zg (Zn (Zr q) (201)) (Zr q) s tq ix 2 (10) (s.back) := by
 have hw : W1 (Zn (Zr q) (201)) ([82, 69, 84]) = true := by
  rcases hq with rfl | rfl | rfl <;> decide +kernel
 obtain ⟨r, px, u⟩ := s
 obtain rfl : px = q := hp
 rcases hq with rfl | rfl | rfl <;> exact Vf hw (.ret_ _) (fun _ _ _ _ _ _ H => xret _ _ _ rfl rfl rfl H) rfl rfl
theorem ZlX (q : Nat) (hq : Q3 q) (s : Cs) (hp : s.px = q) (tq : Nat) (ix : Bool) : Zg (Zn (Zr q) (217)) (Zr q) s tq ix 0 (4) (s.setR (s.r.swap true)) := by
 have hw : W1 (Zn (Zr q) (217)) ([69, 88, 88]) = true := by
  rcases hq with rfl | rfl | rfl <;> decide +kernel
 obtain ⟨r, px, u⟩ := s
 obtain rfl : px = q := hp
 rcases hq with rfl | rfl | rfl <;> exact Vf hw (.exx_ _) (fun _ _ _ _ _ _ H => xexx _ rfl H) rfl rfl
theorem Zjr (q : Nat) (hq : Q3 q) (s : Cs) (hp : s.px = q) (tq : Nat) (ix : Bool) : Zg (Zn (Zr q) (233)) (Zr q) s tq ix 0 (4) (s.setPC (s.pair 2)) := by
 have hw : W2 (Zn (Zr q) (233)) ([74, 80]) (jpT q) ([]) = true := by
  rcases hq with rfl | rfl | rfl <;> decide +kernel
 obtain ⟨r, px, u⟩ := s
 obtain rfl : px = q := hp
 rcases hq with rfl | rfl | rfl
 ·exact Z4 hw (.jp_ _) (fun _ _ _ _ _ _ H => Zlx _ rfl H) rfl rfl
 ·exact Z4 hw (.jp_ _) (fun _ _ _ _ _ _ H => Zly _ rfl H) rfl rfl
 ·exact Z4 hw (.jp_ _) (fun _ _ _ _ _ _ H => Zlz _ rfl H) rfl rfl
theorem Zjs (q : Nat) (hq : Q3 q) (s : Cs) (hp : s.px = q) (tq : Nat) (ix : Bool) : Zg (Zn (Zr q) (249)) (Zr q) s tq ix 0 (6) (s.setSP (s.pair 2)) := by
 have hw : W2 (Zn (Zr q) (249)) ([76, 68]) ([83, 80]) (naT (pn q 2)) = true := by
  rcases hq with rfl | rfl | rfl <;> decide +kernel
 obtain ⟨r, px, u⟩ := s
 obtain rfl : px = q := hp
 rcases hq with rfl | rfl | rfl <;> exact Z4 hw (.ld_ _) (fun _ _ _ _ _ _ H => Zlr (Nm.ofPair _ (by decide)) (na_nn _ (by decide)) (na_n2 _ (by decide)) _ rfl _ rfl H) rfl rfl
theorem vo (q : Nat) (hq : Q3 q) (s : Cs) (hp : s.px = q) (p : Nat) (hp : p < 4) (tq : Nat) (ix : Bool) : Zg (Zn (Zr q) (193 + 16 * p)) (Zr q) s tq ix 2 (10) (s.pop.setPair (Cs.stacked p) s.popV) := by
 have hw : W2 (Zn (Zr q) (193 + 16 * p)) ([80, 79, 80]) (naT (psn q p)) ([]) = true := by
  exact k41
 obtain ⟨r, px, u⟩ := s
 obtain rfl : px = q := hp
 obtain ⟨h1, w1, qq, h2, h3, h4, h5, h6, h7, h8⟩ := W2.out hw
 rcases hq with rfl | rfl | rfl <;> obtain rfl | rfl | rfl | rfl := (by omega : p = 0 ∨ p = 1 ∨ p = 2 ∨ p = 3) <;> exact fun _ _ _ _ _ _ _ H => (ZfL _ w1 (by omega) _ h2 h3 qq h4 h5 h6 _ _ h7 h8 (Nm.ofPair _ (by decide)) _ _ rfl rfl _ rfl H).mono fun _ _ ⟨a, b⟩ => ⟨a, _, _, b⟩
theorem U4 (q : Nat) (hq : Q3 q) (s : Cs) (hp : s.px = q) (p : Nat) (hp : p < 4) (tq : Nat) (ix : Bool) : Zg (Zn (Zr q) (197 + 16 * p)) (Zr q) s tq ix 2 (11) (s.push (s.pair (Cs.stacked p))) := by
 have hw : W2 (Zn (Zr q) (197 + 16 * p)) ([80, 85, 83, 72]) (naT (psn q p)) ([]) = true := by
  exact k41
 obtain ⟨r, px, u⟩ := s
 obtain rfl : px = q := hp
 obtain ⟨h1, w1, qq, h2, h3, h4, h5, h6, h7, h8⟩ := W2.out hw
 rcases hq with rfl | rfl | rfl <;> obtain rfl | rfl | rfl | rfl := (by omega : p = 0 ∨ p = 1 ∨ p = 2 ∨ p = 3) <;> exact fun _ _ _ _ _ _ _ H => (ZdG _ w1 (by omega) _ h2 h3 qq h4 h5 h6 _ _ h7 h8 (Nm.ofPair _ (by decide)) _ rfl _ rfl H).mono fun _ _ ⟨a, b⟩ => ⟨a, _, _, b⟩
theorem Zjt (q : Nat) (hq : Q3 q) (s : Cs) (hp : s.px = q) (y : Nat) (hy : y < 8) (tq : Nat) (ix : Bool) : Zg (Zn (Zr q) (194 + 8 * y)) (Zr q) s tq ix 2 (10) (s.jumpTo (ZH s.r.f y)) := by
 have hw : W2 (Zn (Zr q) (194 + 8 * y)) ([74, 80]) (ccT y) ([110, 110]) = true := by
  exact k45
 obtain ⟨r, px, u⟩ := s
 obtain rfl : px = q := hp
 rcases hq with rfl | rfl | rfl <;> exact Z4 hw (.jp_ _) (fun _ _ _ _ _ _ H => Zlw _ y rfl (by omega) _ rfl _ rfl _ _ _ rfl rfl rfl H) rfl rfl
theorem pl_jp (q : Nat) (hq : Q3 q) (s : Cs) (hp : s.px = q) (tq : Nat) (ix : Bool) : Zg (Zn (Zr q) (195)) (Zr q) s tq ix 2 (10) (s.jumpTo true) := by
 have hw : W2 (Zn (Zr q) (195)) ([74, 80]) ([110, 110]) ([]) = true := by
  rcases hq with rfl | rfl | rfl <;> decide +kernel
 obtain ⟨r, px, u⟩ := s
 obtain rfl : px = q := hp
 rcases hq with rfl | rfl | rfl <;> exact Z4 hw (.jp_ _) (fun _ _ _ _ _ _ H => Zlv _ _ _ rfl rfl rfl H) rfl rfl
theorem Zju (q : Nat) (hq : Q3 q) (s : Cs) (hp : s.px = q) (tq : Nat) (ix : Bool) : Zg (Zn (Zr q) (211)) (Zr q) s tq ix 2 (11) (s.outNext) := by
 have hw : W2 (Zn (Zr q) (211)) ([79, 85, 84]) ([40, 110, 41]) ([65]) = true := by
  rcases hq with rfl | rfl | rfl <;> decide +kernel
 obtain ⟨r, px, u⟩ := s
 obtain rfl : px = q := hp
 rcases hq with rfl | rfl | rfl <;> exact Z4 hw (.out_ _) (fun _ _ _ _ _ _ H => ZfD _ _ rfl rfl _ _ rfl rfl _ rfl _ rfl H) rfl rfl
theorem ZlY (q : Nat) (hq : Q3 q) (s : Cs) (hp : s.px = q) (tq : Nat) (ix : Bool) : Zg (Zn (Zr q) (219)) (Zr q) s tq ix 2 (11) (s.inNext) := by
 have hw : W2 (Zn (Zr q) (219)) ([73, 78]) ([65]) ([40, 110, 41]) = true := by
  rcases hq with rfl | rfl | rfl <;> decide +kernel
 obtain ⟨r, px, u⟩ := s
 obtain rfl : px = q := hp
 rcases hq with rfl | rfl | rfl <;> exact Z4 hw (.in_ _) (fun _ _ _ _ _ _ H => ZfE _ _ rfl rfl _ _ _ rfl rfl rfl _ rfl _ rfl _ rfl H) rfl rfl
theorem Zjv (q : Nat) (hq : Q3 q) (s : Cs) (hp : s.px = q) (tq : Nat) (ix : Bool) : Zg (Zn (Zr q) (227)) (Zr q) s tq ix 4 (19) (s.swapTop) := by
 have hw : W2 (Zn (Zr q) (227)) ([69, 88]) ([40, 83, 80, 41]) (naT (pn q 2)) = true := by
  rcases hq with rfl | rfl | rfl <;> decide +kernel
 obtain ⟨r, px, u⟩ := s
 obtain rfl : px = q := hp
 rcases hq with rfl | rfl | rfl <;> exact Z4 hw (.ex_ _) (fun _ _ _ _ _ _ H => xexsp (Nm.ofPair _ (by decide)) _ _ _ _ rfl rfl rfl rfl _ rfl H) rfl rfl
theorem Zjw (q : Nat) (hq : Q3 q) (s : Cs) (hp : s.px = q) (tq : Nat) (ix : Bool) : Zg (Zn (Zr q) (235)) (Zr q) s tq ix 0 (4) (s.swapDE) := by
 have hw : W2 (Zn (Zr q) (235)) ([69, 88]) ([68, 69]) ([72, 76]) = true := by
  rcases hq with rfl | rfl | rfl <;> decide +kernel
 obtain ⟨r, px, u⟩ := s
 obtain rfl : px = q := hp
 rcases hq with rfl | rfl | rfl <;> exact (Z4 hw (.ex_ _) (fun _ _ _ _ _ _ H => xexde _ _ rfl rfl _ rfl _ rfl H) rfl rfl).fit fun h => Zi9 _ h
theorem pl_di (q : Nat) (hq : Q3 q) (s : Cs) (hp : s.px = q) (hdl : s.r.dl = false) (tq : Nat) (ix : Bool) : Zg (Zn (Zr q) (243)) (Zr q) s tq ix 0 (4) ((s.setQ1 false).setQ2 false) := by
 have hw : W1 (Zn (Zr q) (243)) ([68, 73]) = true := by
  rcases hq with rfl | rfl | rfl <;> decide +kernel
 obtain ⟨r, px, u⟩ := s
 obtain rfl : px = q := hp
 have es : ∀ a f : Nat, r.a = a → r.f = f → (((((Cs.mk r px u).setQ1 false).setQ2 false).setDL false).setA a).setF f = ((Cs.mk r px u).setQ1 false).setQ2 false := by
  rintro a f rfl rfl
  cases r
  simp only at hdl
  subst hdl
  rfl
 rcases hq with rfl | rfl | rfl <;> exact Zbc hw (by decide) (.di_ _) (fun _ _ _ _ _ _ H => ZlC _ _ rfl rfl H) rfl (es _ _ rfl rfl)
theorem pl_ei (q : Nat) (hq : Q3 q) (s : Cs) (hp : s.px = q) (tq : Nat) (ix : Bool) : Zg (Zn (Zr q) (251)) (Zr q) s tq ix 0 (4) (((s.setQ1 true).setQ2 true).setDL true) := by
 have hw : W1 (Zn (Zr q) (251)) ([69, 73]) = true := by
  rcases hq with rfl | rfl | rfl <;> decide +kernel
 obtain ⟨r, px, u⟩ := s
 obtain rfl : px = q := hp
 rcases hq with rfl | rfl | rfl <;> exact Zbc hw (by decide) (.ei_ _) (fun _ _ _ _ _ _ H => ZlD _ _ rfl rfl H) rfl rfl
theorem ZdJ (q : Nat) (hq : Q3 q) (s : Cs) (hp : s.px = q) (y : Nat) (hy : y < 8) (tq : Nat) (ix : Bool) : Zg (Zn (Zr q) (196 + 8 * y)) (Zr q) s tq ix 4 (((cond (ZH s.r.f y) 17 10 : Nat) : Int)) (s.callTo (ZH s.r.f y)) := by
 have hw : W2 (Zn (Zr q) (196 + 8 * y)) ([67, 65, 76, 76]) (ccT y) ([110, 110]) = true := by
  exact k45
 obtain ⟨r, px, u⟩ := s
 obtain rfl : px = q := hp
 rcases hq with rfl | rfl | rfl <;> exact Z4 hw (.call_ _) (fun _ _ _ _ _ _ H => Zfv _ y rfl (by omega) _ rfl _ rfl _ _ _ rfl rfl rfl _ rfl _ rfl H) (ZC _ 17 10) (congrArg (fun z => cond _ z _) (ZdI _ _ rfl))
theorem Zjx (q : Nat) (hq : Q3 q) (s : Cs) (hp : s.px = q) (tq : Nat) (ix : Bool) : Zg (Zn (Zr q) (205)) (Zr q) s tq ix 4 (17) (s.callTo true) := by
 have hw : W2 (Zn (Zr q) (205)) ([67, 65, 76, 76]) ([110, 110]) ([]) = true := by
  rcases hq with rfl | rfl | rfl <;> decide +kernel
 obtain ⟨r, px, u⟩ := s
 obtain rfl : px = q := hp
 rcases hq with rfl | rfl | rfl <;> exact Z4 hw (.call_ _) (fun _ _ _ _ _ _ H => Zfu _ _ _ rfl rfl rfl _ rfl _ rfl H) rfl (ZdI _ _ rfl)
theorem ZlZ (q : Nat) (hq : Q3 q) (s : Cs) (hp : s.px = q) (y : Nat) (hy : y < 8) (tq : Nat) (ix : Bool) : Zg (Zn (Zr q) (199 + 8 * y)) (Zr q) s tq ix 2 (11) (s.start (y * 8)) := by
 have hw : W2 (Zn (Zr q) (199 + 8 * y)) ([82, 83, 84]) (Zbb (8 * y)) ([]) = true := by
  exact k45
 obtain ⟨r, px, u⟩ := s
 obtain rfl : px = q := hp
 rcases hq with rfl | rfl | rfl <;> obtain rfl | rfl | rfl | rfl | rfl | rfl | rfl | rfl := (by omega : y = 0 ∨ y = 1 ∨ y = 2 ∨ y = 3 ∨ y = 4 ∨ y = 5 ∨ y = 6 ∨ y = 7) <;> exact Z4 hw (.rst_ _) (fun _ _ _ _ _ _ H => xrst _ (by decide) (by decide) _ rfl _ rfl _ _ rfl rfl H) rfl rfl
end
end Go.Proofs.YtgdeeiimkhjfiaaGreatDoor
