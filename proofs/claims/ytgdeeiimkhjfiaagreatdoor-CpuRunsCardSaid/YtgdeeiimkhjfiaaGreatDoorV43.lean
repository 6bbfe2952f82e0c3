import Derived.Test.YtgdeeiimkhjfiaaGreatDoorV40
import Derived.Test.YtgdeeiimkhjfiaaGreatDoorV41
import Derived.Test.YtgdeeiimkhjfiaaGreatDoorV42
set_option maxRecDepth 100000
set_option maxHeartbeats 6400000
namespace Go.Proofs.YtgdeeiimkhjfiaaGreatDoor
open Go.RowKit
section
variable {W0 w : World} {x b tq n c : Nat} {s : Cs} {ix : Bool} {pg : Int} {l : Zj}
theorem ZK {m A : Tx} {k : Nat} {c : Int} {s' : Cs} {tq' : Nat} {ix' : Bool} (h1 : (m == [78, 69, 71]) = false) (h2 : (m == [73, 77]) = false) (h3 : (m == [82, 82, 68]) = false) (h4 : (m == [82, 76, 68]) = false) (h5 : (m == [78, 79, 80]) = false) (D : zn 110 [.string ⟨m.toArray⟩] s tq ix pg k c s' tq' ix') (H : Hid (Ex W0 w x b s tq ix pg l (n + k))) :
  CX 54 #[.pointer (some ⟨x, 0, none⟩), .string ⟨m.toArray⟩, .string ⟨A.toArray⟩] w (.int .i64 c) fun w' => Hid (Ex W0 w' x b s' tq' ix' pg l n) := by
 have HD := Zb D
 clear D
 go_enter Tryz.func54, Tryz.ntmps54
 go_wp2_with (first | (go_at_call 110; (with_reducible refine (HD.out _ _ _ _ _ _ H).mono ?_); rintro e w' ⟨rfl, H'⟩; clear H; have H := H'; clear H'))
 go_ret
 exact ⟨rfl, H⟩
theorem KP (p : Nat) : ((p : Int) + 1) % 65536 = ((wMove p 1 : Nat) : Int) := by show _ = ((((p + 1) % 65536 : Nat)) : Int); omega
theorem KQ (p : Nat) : ((p : Int) + -1) % 65536 = ((wMove p 255 : Nat) : Int) := by show _ = ((((p + (255 + 65280)) % 65536 : Nat)) : Int); omega
theorem Jo (p : Nat) : ((p : Int) + 1) % 256 = (((p + 1) % 256 : Nat) : Int) := by omega
theorem Jp (p : Nat) : ((p : Int) + -1) % 256 = (((p + 255) % 256 : Nat) : Int) := by omega
theorem Jq (p : Nat) : ((p : Int) + 1) % 256 = ((wMove p 1 % 256 : Nat) : Int) := by show _ = ((((p + 1) % 65536 % 256 : Nat)) : Int); omega
theorem Jr (p : Nat) : ((p : Int) + -1) % 256 = ((wMove p 255 % 256 : Nat) : Int) := by show _ = ((((p + (255 + 65280)) % 65536 % 256 : Nat)) : Int); omega
theorem U5 (d : Nat) : Hid ((decide (d ≠ 0) = true) ↔ d ≠ 0) := Zb decide_eq_true_iff
theorem w2_inr : ∀ y, y < 8 → (¬ y = 6) → W2 (Zn 2 (64 + 8 * y)) ([73, 78]) (leT y 0) ([40, 67, 41]) = true := by decide +kernel
theorem Zl9 (s : Cs) (hp : s.px = 0) (y : Nat) (hy : y < 8) (c0 : ¬ y = 6) (tq : Nat) (ix : Bool) : Zg (Zn 2 (64 + 8 * y)) 2 s tq ix 1 (12) (s.inOne (y : Int)) := by
 have hw := w2_inr y hy c0
 obtain ⟨r, px, u⟩ := s
 obtain rfl : px = 0 := hp
 exact Z4 hw (.in_ _) (fun _ _ _ _ _ _ H => ZfH (Nm.ofLet y 0 (by omega)) (YJ y 0 (by omega) (by decide)) _ _ rfl rfl _ rfl _ _ rfl rfl _ _ rfl rfl _ rfl H) rfl rfl
theorem w2_ino : W2 (Zn 2 (112)) ([73, 78]) ([40, 67, 41]) ([]) = true := by decide +kernel
theorem Zma (s : Cs) (hp : s.px = 0) (tq : Nat) (ix : Bool) : Zg (Zn 2 (112)) 2 s tq ix 1 (12) (s.inOne 6) := by
 have hw := w2_ino
 obtain ⟨r, px, u⟩ := s
 obtain rfl : px = 0 := hp
 exact Z4 hw (.in_ _) (fun _ _ _ _ _ _ H => Zi6 _ _ rfl rfl _ rfl _ _ rfl rfl _ _ rfl rfl H) rfl rfl
theorem w2_outr : ∀ y, y < 8 → (¬ y = 6) → W2 (Zn 2 (65 + 8 * y)) ([79, 85, 84]) ([40, 67, 41]) (leT y 0) = true := by decide +kernel
theorem ZjF (s : Cs) (hp : s.px = 0) (y : Nat) (hy : y < 8) (c0 : ¬ y = 6) (tq : Nat) (ix : Bool) : Zg (Zn 2 (65 + 8 * y)) 2 s tq ix 1 (12) (s.outOne (y : Int)) := by
 have hw := w2_outr y hy c0
 obtain ⟨r, px, u⟩ := s
 obtain rfl : px = 0 := hp
 exact Z4 hw (.out_ _) (fun _ _ _ _ _ _ H => ZfF (Nm.ofLet y 0 (by omega)) (YJ y 0 (by omega) (by decide)) _ _ rfl rfl _ rfl _ rfl _ rfl H) rfl rfl
theorem w2_outo : W2 (Zn 2 (113)) ([79, 85, 84]) ([40, 67, 41]) ([48]) = true := by decide +kernel
theorem ZjG (s : Cs) (hp : s.px = 0) (tq : Nat) (ix : Bool) : Zg (Zn 2 (113)) 2 s tq ix 1 (12) (s.outOne 6) := by
 have hw := w2_outo
 obtain ⟨r, px, u⟩ := s
 obtain rfl : px = 0 := hp
 exact Z4 hw (.out_ _) (fun _ _ _ _ _ _ H => ZfG _ _ rfl rfl _ rfl _ rfl H) rfl rfl
theorem w2_sbc : ∀ p, p < 4 → W2 (Zn 2 (66 + 16 * p)) ([83, 66, 67]) (naT 2) (naT p) = true := by decide +kernel
theorem vt (s : Cs) (hp : s.px = 0) (p : Nat) (hp : p < 4) (tq : Nat) (ix : Bool) : Zg (Zn 2 (66 + 16 * p)) 2 s tq ix 0 (15) (s.carryPair false (p : Int)) := by
 have hw := w2_sbc p hp
 obtain ⟨r, px, u⟩ := s
 obtain rfl : px = 0 := hp
 obtain rfl | rfl | rfl | rfl : p = 0 ∨ p = 1 ∨ p = 2 ∨ p = 3 := by omega
 ·exact Z4 hw (.sbc_ _) (fun _ _ _ _ _ _ H => Kf (Nm.ofPair (2) (by decide)) (Nm.ofPair (0) (by decide)) rfl _ _ _ _ rfl rfl rfl _ rfl rfl _ _ rfl rfl _ rfl H) rfl rfl
 ·exact Z4 hw (.sbc_ _) (fun _ _ _ _ _ _ H => Kf (Nm.ofPair (2) (by decide)) (Nm.ofPair (1) (by decide)) rfl _ _ _ _ rfl rfl rfl _ rfl rfl _ _ rfl rfl _ rfl H) rfl rfl
 ·exact Z4 hw (.sbc_ _) (fun _ _ _ _ _ _ H => Kf (Nm.ofPair (2) (by decide)) (Nm.ofPair (2) (by decide)) rfl _ _ _ _ rfl rfl rfl _ rfl rfl _ _ rfl rfl _ rfl H) rfl rfl
 ·exact Z4 hw (.sbc_ _) (fun _ _ _ _ _ _ H => Kf (Nm.ofPair (2) (by decide)) (Nm.ofPair (3) (by decide)) rfl _ _ _ _ rfl rfl rfl _ rfl rfl _ _ rfl rfl _ rfl H) rfl rfl
theorem w2_adc : ∀ p, p < 4 → W2 (Zn 2 (74 + 16 * p)) ([65, 68, 67]) (naT 2) (naT p) = true := by decide +kernel
theorem vv (s : Cs) (hp : s.px = 0) (p : Nat) (hp : p < 4) (tq : Nat) (ix : Bool) : Zg (Zn 2 (74 + 16 * p)) 2 s tq ix 0 (15) (s.carryPair true (p : Int)) := by
 have hw := w2_adc p hp
 obtain ⟨r, px, u⟩ := s
 obtain rfl : px = 0 := hp
 obtain rfl | rfl | rfl | rfl : p = 0 ∨ p = 1 ∨ p = 2 ∨ p = 3 := by omega
 ·exact Z4 hw (.adc_ _) (fun _ _ _ _ _ _ H => Ke (Nm.ofPair (2) (by decide)) (Nm.ofPair (0) (by decide)) rfl _ _ _ _ rfl rfl rfl _ rfl rfl _ _ rfl rfl _ rfl H) rfl rfl
 ·exact Z4 hw (.adc_ _) (fun _ _ _ _ _ _ H => Ke (Nm.ofPair (2) (by decide)) (Nm.ofPair (1) (by decide)) rfl _ _ _ _ rfl rfl rfl _ rfl rfl _ _ rfl rfl _ rfl H) rfl rfl
 ·exact Z4 hw (.adc_ _) (fun _ _ _ _ _ _ H => Ke (Nm.ofPair (2) (by decide)) (Nm.ofPair (2) (by decide)) rfl _ _ _ _ rfl rfl rfl _ rfl rfl _ _ rfl rfl _ rfl H) rfl rfl
 ·exact Z4 hw (.adc_ _) (fun _ _ _ _ _ _ H => Ke (Nm.ofPair (2) (by decide)) (Nm.ofPair (3) (by decide)) rfl _ _ _ _ rfl rfl rfl _ rfl rfl _ _ rfl rfl _ rfl H) rfl rfl
theorem w2_ldNp : ∀ p, p < 4 → W2 (Zn 2 (67 + 16 * p)) ([76, 68]) ([40, 110, 110, 41]) (naT p) = true := by decide +kernel
theorem U6 (s : Cs) (hp : s.px = 0) (p : Nat) (hp : p < 4) (tq : Nat) (ix : Bool) : Zg (Zn 2 (67 + 16 * p)) 2 s tq ix 4 (20) (s.movePair 0 (p : Int)) := by
 have hw := w2_ldNp p hp
 obtain ⟨r, px, u⟩ := s
 obtain rfl : px = 0 := hp
 obtain rfl | rfl | rfl | rfl : p = 0 ∨ p = 1 ∨ p = 2 ∨ p = 3 := by omega
 ·exact Z4 hw (.ld_ _) (fun _ _ _ _ _ _ H => YH rfl (fun _ _ _ _ _ _ H => zk _ _ _ _ rfl rfl rfl rfl (Nm.ofPair (0) (by decide)) rfl _ rfl _ rfl _ rfl H) H) rfl rfl
 ·exact Z4 hw (.ld_ _) (fun _ _ _ _ _ _ H => YH rfl (fun _ _ _ _ _ _ H => zk _ _ _ _ rfl rfl rfl rfl (Nm.ofPair (1) (by decide)) rfl _ rfl _ rfl _ rfl H) H) rfl rfl
 ·exact Z4 hw (.ld_ _) (fun _ _ _ _ _ _ H => YH rfl (fun _ _ _ _ _ _ H => zk _ _ _ _ rfl rfl rfl rfl (Nm.ofPair (2) (by decide)) rfl _ rfl _ rfl _ rfl H) H) rfl rfl
 ·exact Z4 hw (.ld_ _) (fun _ _ _ _ _ _ H => YH rfl (fun _ _ _ _ _ _ H => zk _ _ _ _ rfl rfl rfl rfl (Nm.ofPair (3) (by decide)) rfl _ rfl _ rfl _ rfl H) H) rfl rfl
theorem w2_ldpN : ∀ p, p < 4 → W2 (Zn 2 (75 + 16 * p)) ([76, 68]) (naT p) ([40, 110, 110, 41]) = true := by decide +kernel
theorem U7 (s : Cs) (hp : s.px = 0) (p : Nat) (hp : p < 4) (tq : Nat) (ix : Bool) : Zg (Zn 2 (75 + 16 * p)) 2 s tq ix 4 (20) (s.movePair 1 (p : Int)) := by
 have hw := w2_ldpN p hp
 obtain ⟨r, px, u⟩ := s
 obtain rfl : px = 0 := hp
 obtain rfl | rfl | rfl | rfl : p = 0 ∨ p = 1 ∨ p = 2 ∨ p = 3 := by omega
 ·exact Z4 hw (.ld_ _) (fun _ _ _ _ _ _ H => YH rfl (fun _ _ _ _ _ _ H => zl _ _ _ _ rfl rfl rfl rfl (Nm.ofPair (0) (by decide)) rfl rfl _ _ rfl rfl _ rfl _ rfl H) H) rfl rfl
 ·exact Z4 hw (.ld_ _) (fun _ _ _ _ _ _ H => YH rfl (fun _ _ _ _ _ _ H => zl _ _ _ _ rfl rfl rfl rfl (Nm.ofPair (1) (by decide)) rfl rfl _ _ rfl rfl _ rfl _ rfl H) H) rfl rfl
 ·exact Z4 hw (.ld_ _) (fun _ _ _ _ _ _ H => YH rfl (fun _ _ _ _ _ _ H => zl _ _ _ _ rfl rfl rfl rfl (Nm.ofPair (2) (by decide)) rfl rfl _ _ rfl rfl _ rfl _ rfl H) H) rfl rfl
 ·exact Z4 hw (.ld_ _) (fun _ _ _ _ _ _ H => YH rfl (fun _ _ _ _ _ _ H => zl _ _ _ _ rfl rfl rfl rfl (Nm.ofPair (3) (by decide)) rfl rfl _ _ rfl rfl _ rfl _ rfl H) H) rfl rfl
theorem w2_neg : ∀ y, y < 8 → W1 (Zn 2 (68 + 8 * y)) ([78, 69, 71]) = true := by decide +kernel
theorem Zmb (s : Cs) (hp : s.px = 0) (y : Nat) (hy : y < 8) (tq : Nat) (ix : Bool) : Zg (Zn 2 (68 + 8 * y)) 2 s tq ix 0 (8) ((s.setA (ZY 0 s.r.a 0)).setF (ZU 0 s.r.a 0)) := by
 have hw := w2_neg y hy
 obtain ⟨r, px, u⟩ := s
 obtain rfl : px = 0 := hp
 exact Vf hw (.neg_) (fun _ _ _ _ _ _ H => xneg _ _ _ rfl rfl rfl H) rfl rfl
theorem w2_retn : ∀ y, y < 8 → (¬ y = 1) → W1 (Zn 2 (69 + 8 * y)) ([82, 69, 84, 78]) = true := by decide +kernel
theorem ZjH (s : Cs) (hp : s.px = 0) (y : Nat) (hy : y < 8) (c0 : ¬ y = 1) (tq : Nat) (ix : Bool) : Zg (Zn 2 (69 + 8 * y)) 2 s tq ix 2 (14) (s.back.setQ1 s.r.q2) := by
 have hw := w2_retn y hy c0
 obtain ⟨r, px, u⟩ := s
 obtain rfl : px = 0 := hp
 exact Vf hw (.retn_ _) (fun _ _ _ _ _ _ H => xretn _ _ _ rfl rfl rfl _ rfl H) rfl rfl
theorem w2_reti : W1 (Zn 2 (77)) ([82, 69, 84, 73]) = true := by decide +kernel
theorem ZjI (s : Cs) (hp : s.px = 0) (tq : Nat) (ix : Bool) : Zg (Zn 2 (77)) 2 s tq ix 2 (14) (s.back.setQ1 s.r.q2) := by
 have hw := w2_reti
 obtain ⟨r, px, u⟩ := s
 obtain rfl : px = 0 := hp
 exact Vf hw (.reti_ _) (fun _ _ _ _ _ _ H => xreti _ _ _ rfl rfl rfl _ rfl H) rfl rfl
theorem w2_im : ∀ y, y < 8 → W2 (Zn 2 (70 + 8 * y)) ([73, 77]) ([UInt8.ofNat (48 + Cs.modeV y)]) ([]) = true := by decide +kernel
theorem pe_im (s : Cs) (hp : s.px = 0) (y : Nat) (hy : y < 8) (tq : Nat) (ix : Bool) : Zg (Zn 2 (70 + 8 * y)) 2 s tq ix 0 (8) (s.setIM (Cs.modeV y)) := by
 have hw := w2_im y hy
 obtain ⟨r, px, u⟩ := s
 obtain rfl : px = 0 := hp
 obtain rfl | rfl | rfl | rfl | rfl | rfl | rfl | rfl : y = 0 ∨ y = 1 ∨ y = 2 ∨ y = 3 ∨ y = 4 ∨ y = 5 ∨ y = 6 ∨ y = 7 := by omega
 ·exact Z4 hw (.im_) (fun _ _ _ _ _ _ H => xim _ (by decide) _ rfl _ _ rfl rfl (by decide) H) rfl rfl
 ·exact Z4 hw (.im_) (fun _ _ _ _ _ _ H => xim _ (by decide) _ rfl _ _ rfl rfl (by decide) H) rfl rfl
 ·exact Z4 hw (.im_) (fun _ _ _ _ _ _ H => xim _ (by decide) _ rfl _ _ rfl rfl (by decide) H) rfl rfl
 ·exact Z4 hw (.im_) (fun _ _ _ _ _ _ H => xim _ (by decide) _ rfl _ _ rfl rfl (by decide) H) rfl rfl
 ·exact Z4 hw (.im_) (fun _ _ _ _ _ _ H => xim _ (by decide) _ rfl _ _ rfl rfl (by decide) H) rfl rfl
 ·exact Z4 hw (.im_) (fun _ _ _ _ _ _ H => xim _ (by decide) _ rfl _ _ rfl rfl (by decide) H) rfl rfl
 ·exact Z4 hw (.im_) (fun _ _ _ _ _ _ H => xim _ (by decide) _ rfl _ _ rfl rfl (by decide) H) rfl rfl
 ·exact Z4 hw (.im_) (fun _ _ _ _ _ _ H => xim _ (by decide) _ rfl _ _ rfl rfl (by decide) H) rfl rfl
theorem w2_ldIa : W2 (Zn 2 (71)) ([76, 68]) ([73]) ([65]) = true := by decide +kernel
theorem ZjJ (s : Cs) (hp : s.px = 0) (tq : Nat) (ix : Bool) : Zg (Zn 2 (71)) 2 s tq ix 0 (9) (s.setI s.r.a) := by
 have hw := w2_ldIa
 obtain ⟨r, px, u⟩ := s
 obtain rfl : px = 0 := hp
 exact Z4 hw (.ld_ _) (fun _ _ _ _ _ _ H => ZlI _ rfl _ rfl H) rfl rfl
theorem w2_ldRa : W2 (Zn 2 (79)) ([76, 68]) ([82]) ([65]) = true := by decide +kernel
theorem ZjK (s : Cs) (hp : s.px = 0) (tq : Nat) (ix : Bool) : Zg (Zn 2 (79)) 2 s tq ix 0 (9) (s.setRR s.r.a) := by
 have hw := w2_ldRa
 obtain ⟨r, px, u⟩ := s
 obtain rfl : px = 0 := hp
 exact Z4 hw (.ld_ _) (fun _ _ _ _ _ _ H => ZlK _ rfl _ rfl H) rfl rfl
theorem w2_ldaI : W2 (Zn 2 (87)) ([76, 68]) ([65]) ([73]) = true := by decide +kernel
theorem ZjL (s : Cs) (hp : s.px = 0) (tq : Nat) (ix : Bool) : Zg (Zn 2 (87)) 2 s tq ix 0 (9) (s.bring s.r.i) := by
 have hw := w2_ldaI
 obtain ⟨r, px, u⟩ := s
 obtain rfl : px = 0 := hp
 exact Z4 hw (.ld_ _) (fun _ _ _ _ _ _ H => ZlJ _ _ _ rfl rfl rfl _ rfl H) rfl rfl
theorem w2_ldaR : W2 (Zn 2 (95)) ([76, 68]) ([65]) ([82]) = true := by decide +kernel
theorem ZjM (s : Cs) (hp : s.px = 0) (tq : Nat) (ix : Bool) : Zg (Zn 2 (95)) 2 s tq ix 0 (9) (s.bring s.r.r) := by
 have hw := w2_ldaR
 obtain ⟨r, px, u⟩ := s
 obtain rfl : px = 0 := hp
 exact Z4 hw (.ld_ _) (fun _ _ _ _ _ _ H => ZlL _ _ _ rfl rfl rfl _ rfl H) rfl rfl
theorem w2_rrd : W1 (Zn 2 (103)) ([82, 82, 68]) = true := by decide +kernel
theorem Zmc (s : Cs) (hp : s.px = 0) (tq : Nat) (ix : Bool) : Zg (Zn 2 (103)) 2 s tq ix 2 (18) (s.digits false) := by
 have hw := w2_rrd
 obtain ⟨r, px, u⟩ := s
 obtain rfl : px = 0 := hp
 exact Vf hw (.rrd_) (fun _ _ _ _ _ _ H => xrrd _ _ rfl rfl _ rfl _ _ rfl rfl _ _ rfl rfl _ _ _ rfl rfl rfl _ rfl H) rfl rfl
theorem w2_rld : W1 (Zn 2 (111)) ([82, 76, 68]) = true := by decide +kernel
theorem Zmd (s : Cs) (hp : s.px = 0) (tq : Nat) (ix : Bool) : Zg (Zn 2 (111)) 2 s tq ix 2 (18) (s.digits true) := by
 have hw := w2_rld
 obtain ⟨r, px, u⟩ := s
 obtain rfl : px = 0 := hp
 exact Vf hw (.rld_) (fun _ _ _ _ _ _ H => xrld _ _ rfl rfl _ rfl _ _ rfl rfl _ _ rfl rfl _ _ _ rfl rfl rfl _ rfl H) rfl rfl
theorem mo_0 (s : Cs) (b : Nat) : s.manyOne 0 b = s.manyLoad b := by unfold Cs.manyOne; rw [if_pos rfl]
theorem mn_0 (s : Cs) : s.manyOn 0 = s.manyLoadOn := by unfold Cs.manyOn; rw [if_pos rfl]
theorem mo_1 (s : Cs) (b : Nat) : s.manyOne 1 b = s.manySeek b := by unfold Cs.manyOne; rw [if_neg (by decide), if_pos rfl]
theorem mn_1 (s : Cs) : s.manyOn 1 = s.manySeekOn := by unfold Cs.manyOn; rw [if_neg (by decide), if_pos rfl]
theorem mo_2 (s : Cs) (b : Nat) : s.manyOne 2 b = s.manyIn b := by unfold Cs.manyOne; rw [if_neg (by decide), if_neg (by decide), if_pos rfl]
theorem mn_2 (s : Cs) : s.manyOn 2 = decide (s.decB ≠ 0) := by unfold Cs.manyOn; rw [if_neg (by decide), if_neg (by decide)]
theorem mo_3 (s : Cs) (b : Nat) : s.manyOne 3 b = s.manyOut b := by unfold Cs.manyOne; rw [if_neg (by decide), if_neg (by decide), if_neg (by decide)]
theorem mn_3 (s : Cs) : s.manyOn 3 = decide (s.decB ≠ 0) := by unfold Cs.manyOn; rw [if_neg (by decide), if_neg (by decide)]
def outX (s : Cs) (b : Nat) : Cs :=
 let z := s.r.h * 256 + s.r.l
 let v := s.m z
 let s1 := s.rd z
 let bb := (s1.r.b + 255) % 256
 let s2 := s1.setR { s1.r with b := bb }
 let c2 := s2.r.b * 256 + s2.r.c
 let s3 := s2.op c2 v 13
 let s4 := s3.setWZ (wMove c2 b)
 let s5 := s4.setF (Ku v (wMove z b % 256) bb)
 s5.setR { s5.r with h := wMove z b / 256, l := wMove z b % 256 }
theorem ZjN (r : Rg) (u : U) (b : Nat) : outX ⟨r, 0, u⟩ b = Cs.manyOut ⟨r, 0, u⟩ b := by
 unfold outX Cs.manyOut Cs.shift Cs.setPair Cs.pair Cs.stands Cs.decB
 simp only [Rg.setPair, Rg.pair]
 rfl
theorem Zf2 (s : Cs) (hp : s.px = 0) {m : Tx} {y : Int} {ag : Bool} (b : Nat) (hm : MT m y ag false true false) (W : ∀ p : Nat, ((p : Int) + y) % 65536 = ((wMove p b : Nat) : Int)) (_W8 : ∀ p : Nat, ((p : Int) + y) % 256 = (((p + b) % 256 : Nat) : Int)) (_WL : ∀ p : Nat, ((p : Int) + y) % 256 = ((wMove p b % 256 : Nat) : Int)) (tq : Nat) (ix : Bool) :
  zn 110 [.string ⟨m.toArray⟩] s tq ix 2 2 (cond (ag && s.manyOn 0) 21 16) (cond (ag && s.manyOn 0) ((s.manyOne 0 b).again 0) (s.manyOne 0 b)) tq ix := by
 obtain ⟨r, px, u⟩ := s
 obtain rfl : px = 0 := hp
 have h : zn 110 [.string ⟨m.toArray⟩] ⟨r, 0, u⟩ tq ix 2 2 (cond (ag && (⟨r, 0, u⟩ : Cs).manyLoadOn) 21 16) (cond (ag && (⟨r, 0, u⟩ : Cs).manyLoadOn) (((⟨r, 0, u⟩ : Cs).manyLoad b).again 0) ((⟨r, 0, u⟩ : Cs).manyLoad b)) tq ix := fun _ _ _ _ _ _ H => ZfZ hm _ _ _ _ rfl rfl _ rfl rfl rfl _ rfl _ (W _) _ rfl _ rfl _ rfl _ rfl _ rfl _ _ _ rfl rfl _ (U5 _) rfl _ rfl _ (W _) _ rfl _ rfl _ rfl _ rfl _ rfl _ rfl _ rfl H
 rw [mo_0, mn_0]
 exact h
theorem Zf3 (s : Cs) (hp : s.px = 0) {m : Tx} {y : Int} {ag : Bool} (b : Nat) (hm : MT m y ag true false false) (W : ∀ p : Nat, ((p : Int) + y) % 65536 = ((wMove p b : Nat) : Int)) (_W8 : ∀ p : Nat, ((p : Int) + y) % 256 = (((p + b) % 256 : Nat) : Int)) (_WL : ∀ p : Nat, ((p : Int) + y) % 256 = ((wMove p b % 256 : Nat) : Int)) (tq : Nat) (ix : Bool) :
  zn 110 [.string ⟨m.toArray⟩] s tq ix 2 1 (cond (ag && s.manyOn 1) 21 16) (cond (ag && s.manyOn 1) ((s.manyOne 1 b).again 1) (s.manyOne 1 b)) tq ix := by
 obtain ⟨r, px, u⟩ := s
 obtain rfl : px = 0 := hp
 have h : zn 110 [.string ⟨m.toArray⟩] ⟨r, 0, u⟩ tq ix 2 1 (cond (ag && (⟨r, 0, u⟩ : Cs).manySeekOn) 21 16) (cond (ag && (⟨r, 0, u⟩ : Cs).manySeekOn) (((⟨r, 0, u⟩ : Cs).manySeek b).again 1) ((⟨r, 0, u⟩ : Cs).manySeek b)) tq ix := fun _ _ _ _ _ _ H => Zf0 hm _ _ rfl rfl _ _ rfl (W _) _ rfl _ rfl _ rfl _ rfl _ _ rfl rfl _ _ _ rfl rfl _ _ (U5 _) rfl rfl _ rfl _ (W _) _ rfl _ rfl _ rfl _ rfl _ rfl _ rfl _ rfl H
 rw [mo_1, mn_1]
 exact h
theorem Zf4 (s : Cs) (hp : s.px = 0) {m : Tx} {y : Int} {ag : Bool} (b : Nat) (hm : MT m y ag false false true) (W : ∀ p : Nat, ((p : Int) + y) % 65536 = ((wMove p b : Nat) : Int)) (_W8 : ∀ p : Nat, ((p : Int) + y) % 256 = (((p + b) % 256 : Nat) : Int)) (_WL : ∀ p : Nat, ((p : Int) + y) % 256 = ((wMove p b % 256 : Nat) : Int)) (tq : Nat) (ix : Bool) :
  zn 110 [.string ⟨m.toArray⟩] s tq ix 2 2 (cond (ag && s.manyOn 2) 21 16) (cond (ag && s.manyOn 2) ((s.manyOne 2 b).again 2) (s.manyOne 2 b)) tq ix := by
 obtain ⟨r, px, u⟩ := s
 obtain rfl : px = 0 := hp
 have h : zn 110 [.string ⟨m.toArray⟩] ⟨r, 0, u⟩ tq ix 2 2 (cond (ag && decide ((⟨r, 0, u⟩ : Cs).decB ≠ 0)) 21 16) (cond (ag && decide ((⟨r, 0, u⟩ : Cs).decB ≠ 0)) (((⟨r, 0, u⟩ : Cs).manyIn b).again 2) ((⟨r, 0, u⟩ : Cs).manyIn b)) tq ix := fun _ _ _ _ _ _ H => Zf1 hm _ _ rfl rfl _ (W _) _ rfl _ _ rfl rfl _ rfl _ _ rfl rfl _ rfl _ rfl _ _ _ rfl (_W8 _) rfl _ (U5 _) _ rfl _ (W _) _ rfl _ rfl _ rfl _ rfl _ rfl H
 rw [mo_2, mn_2]
 exact h
theorem vw (s : Cs) (hp : s.px = 0) {m : Tx} {y : Int} {ag : Bool} (b : Nat) (hm : MT m y ag false false false) (W : ∀ p : Nat, ((p : Int) + y) % 65536 = ((wMove p b : Nat) : Int)) (_W8 : ∀ p : Nat, ((p : Int) + y) % 256 = (((p + b) % 256 : Nat) : Int)) (_WL : ∀ p : Nat, ((p : Int) + y) % 256 = ((wMove p b % 256 : Nat) : Int)) (tq : Nat) (ix : Bool) :
  zn 110 [.string ⟨m.toArray⟩] s tq ix 2 2 (cond (ag && s.manyOn 3) 21 16) (cond (ag && s.manyOn 3) ((s.manyOne 3 b).again 3) (s.manyOne 3 b)) tq ix := by
 obtain ⟨r, px, u⟩ := s
 obtain rfl : px = 0 := hp
 have h : zn 110 [.string ⟨m.toArray⟩] ⟨r, 0, u⟩ tq ix 2 2 (cond (ag && decide ((⟨r, 0, u⟩ : Cs).decB ≠ 0)) 21 16) (cond (ag && decide ((⟨r, 0, u⟩ : Cs).decB ≠ 0)) ((outX (⟨r, 0, u⟩ : Cs) b).again 3) (outX (⟨r, 0, u⟩ : Cs) b)) tq ix := fun _ _ _ _ _ _ H => ZdK hm _ _ rfl rfl _ _ rfl rfl _ _ rfl rfl _ rfl _ rfl _ rfl _ rfl _ (W _) _ rfl _ _ (_WL _) rfl _ (U5 _) _ rfl _ (W _) _ rfl _ rfl _ rfl _ rfl _ rfl H
 rw [ZjN] at h
 rw [mo_3, mn_3]
 exact h
theorem w2_ldi : W1 (Zn 2 (160)) ([76, 68, 73]) = true := by decide +kernel
theorem Zme (s : Cs) (hp : s.px = 0) (tq : Nat) (ix : Bool) : Zg (Zn 2 (160)) 2 s tq ix 2 (((s.manyC 4 0 : Nat) : Int)) (s.many 4 0) := by
 have hw := w2_ldi
 obtain ⟨r, px, u⟩ := s
 obtain rfl : px = 0 := hp
 exact Vf hw (.ldi_) (fun _ _ _ _ _ _ H => ZK rfl rfl rfl rfl rfl (Zf2 _ rfl 1 (show MT [76, 68, 73] 1 false false true false from ⟨by decide, by decide, by decide, by decide, ⟨_, rfl, by decide, by decide, by decide⟩, by decide, by decide, by decide⟩) KP Jo Jq _ _) H) (ZC _ 21 16) rfl
theorem w2_ldd : W1 (Zn 2 (168)) ([76, 68, 68]) = true := by decide +kernel
theorem Zmf (s : Cs) (hp : s.px = 0) (tq : Nat) (ix : Bool) : Zg (Zn 2 (168)) 2 s tq ix 2 (((s.manyC 5 0 : Nat) : Int)) (s.many 5 0) := by
 have hw := w2_ldd
 obtain ⟨r, px, u⟩ := s
 obtain rfl : px = 0 := hp
 exact Vf hw (.ldd_) (fun _ _ _ _ _ _ H => ZK rfl rfl rfl rfl rfl (Zf2 _ rfl 255 (show MT [76, 68, 68] (-1) false false true false from ⟨by decide, by decide, by decide, by decide, ⟨_, rfl, by decide, by decide, by decide⟩, by decide, by decide, by decide⟩) KQ Jp Jr _ _) H) (ZC _ 21 16) rfl
theorem w2_ldir : W1 (Zn 2 (176)) ([76, 68, 73, 82]) = true := by decide +kernel
theorem ZjO (s : Cs) (hp : s.px = 0) (tq : Nat) (ix : Bool) : Zg (Zn 2 (176)) 2 s tq ix 2 (((s.manyC 6 0 : Nat) : Int)) (s.many 6 0) := by
 have hw := w2_ldir
 obtain ⟨r, px, u⟩ := s
 obtain rfl : px = 0 := hp
 exact Vf hw (.ldir_) (fun _ _ _ _ _ _ H => ZK rfl rfl rfl rfl rfl (Zf2 _ rfl 1 (show MT [76, 68, 73, 82] 1 true false true false from ⟨by decide, by decide, by decide, by decide, ⟨_, rfl, by decide, by decide, by decide⟩, by decide, by decide, by decide⟩) KP Jo Jq _ _) H) (ZC _ 21 16) rfl
theorem w2_lddr : W1 (Zn 2 (184)) ([76, 68, 68, 82]) = true := by decide +kernel
theorem ZjP (s : Cs) (hp : s.px = 0) (tq : Nat) (ix : Bool) : Zg (Zn 2 (184)) 2 s tq ix 2 (((s.manyC 7 0 : Nat) : Int)) (s.many 7 0) := by
 have hw := w2_lddr
 obtain ⟨r, px, u⟩ := s
 obtain rfl : px = 0 := hp
 exact Vf hw (.lddr_) (fun _ _ _ _ _ _ H => ZK rfl rfl rfl rfl rfl (Zf2 _ rfl 255 (show MT [76, 68, 68, 82] (-1) true false true false from ⟨by decide, by decide, by decide, by decide, ⟨_, rfl, by decide, by decide, by decide⟩, by decide, by decide, by decide⟩) KQ Jp Jr _ _) H) (ZC _ 21 16) rfl
theorem w2_cpi : W1 (Zn 2 (161)) ([67, 80, 73]) = true := by decide +kernel
theorem Zmg (s : Cs) (hp : s.px = 0) (tq : Nat) (ix : Bool) : Zg (Zn 2 (161)) 2 s tq ix 1 (((s.manyC 4 1 : Nat) : Int)) (s.many 4 1) := by
 have hw := w2_cpi
 obtain ⟨r, px, u⟩ := s
 obtain rfl : px = 0 := hp
 exact Vf hw (.cpi_) (fun _ _ _ _ _ _ H => ZK rfl rfl rfl rfl rfl (Zf3 _ rfl 1 (show MT [67, 80, 73] 1 false true false false from ⟨by decide, by decide, by decide, by decide, ⟨_, rfl, by decide, by decide, by decide⟩, by decide, by decide, by decide⟩) KP Jo Jq _ _) H) (ZC _ 21 16) rfl
theorem w2_cpd : W1 (Zn 2 (169)) ([67, 80, 68]) = true := by decide +kernel
theorem Zmh (s : Cs) (hp : s.px = 0) (tq : Nat) (ix : Bool) : Zg (Zn 2 (169)) 2 s tq ix 1 (((s.manyC 5 1 : Nat) : Int)) (s.many 5 1) := by
 have hw := w2_cpd
 obtain ⟨r, px, u⟩ := s
 obtain rfl : px = 0 := hp
 exact Vf hw (.cpd_) (fun _ _ _ _ _ _ H => ZK rfl rfl rfl rfl rfl (Zf3 _ rfl 255 (show MT [67, 80, 68] (-1) false true false false from ⟨by decide, by decide, by decide, by decide, ⟨_, rfl, by decide, by decide, by decide⟩, by decide, by decide, by decide⟩) KQ Jp Jr _ _) H) (ZC _ 21 16) rfl
theorem w2_cpir : W1 (Zn 2 (177)) ([67, 80, 73, 82]) = true := by decide +kernel
theorem ZjQ (s : Cs) (hp : s.px = 0) (tq : Nat) (ix : Bool) : Zg (Zn 2 (177)) 2 s tq ix 1 (((s.manyC 6 1 : Nat) : Int)) (s.many 6 1) := by
 have hw := w2_cpir
 obtain ⟨r, px, u⟩ := s
 obtain rfl : px = 0 := hp
 exact Vf hw (.cpir_) (fun _ _ _ _ _ _ H => ZK rfl rfl rfl rfl rfl (Zf3 _ rfl 1 (show MT [67, 80, 73, 82] 1 true true false false from ⟨by decide, by decide, by decide, by decide, ⟨_, rfl, by decide, by decide, by decide⟩, by decide, by decide, by decide⟩) KP Jo Jq _ _) H) (ZC _ 21 16) rfl
theorem w2_cpdr : W1 (Zn 2 (185)) ([67, 80, 68, 82]) = true := by decide +kernel
theorem ZjR (s : Cs) (hp : s.px = 0) (tq : Nat) (ix : Bool) : Zg (Zn 2 (185)) 2 s tq ix 1 (((s.manyC 7 1 : Nat) : Int)) (s.many 7 1) := by
 have hw := w2_cpdr
 obtain ⟨r, px, u⟩ := s
 obtain rfl : px = 0 := hp
 exact Vf hw (.cpdr_) (fun _ _ _ _ _ _ H => ZK rfl rfl rfl rfl rfl (Zf3 _ rfl 255 (show MT [67, 80, 68, 82] (-1) true true false false from ⟨by decide, by decide, by decide, by decide, ⟨_, rfl, by decide, by decide, by decide⟩, by decide, by decide, by decide⟩) KQ Jp Jr _ _) H) (ZC _ 21 16) rfl
theorem w2_ini : W1 (Zn 2 (162)) ([73, 78, 73]) = true := by decide +kernel
theorem Zmi (s : Cs) (hp : s.px = 0) (tq : Nat) (ix : Bool) : Zg (Zn 2 (162)) 2 s tq ix 2 (((s.manyC 4 2 : Nat) : Int)) (s.many 4 2) := by
 have hw := w2_ini
 obtain ⟨r, px, u⟩ := s
 obtain rfl : px = 0 := hp
 exact Vf hw (.ini_) (fun _ _ _ _ _ _ H => ZK rfl rfl rfl rfl rfl (Zf4 _ rfl 1 (show MT [73, 78, 73] 1 false false false true from ⟨by decide, by decide, by decide, by decide, ⟨_, rfl, by decide, by decide, by decide⟩, by decide, by decide, by decide⟩) KP Jo Jq _ _) H) (ZC _ 21 16) rfl
theorem w2_ind : W1 (Zn 2 (170)) ([73, 78, 68]) = true := by decide +kernel
theorem Zmj (s : Cs) (hp : s.px = 0) (tq : Nat) (ix : Bool) : Zg (Zn 2 (170)) 2 s tq ix 2 (((s.manyC 5 2 : Nat) : Int)) (s.many 5 2) := by
 have hw := w2_ind
 obtain ⟨r, px, u⟩ := s
 obtain rfl : px = 0 := hp
 exact Vf hw (.ind_) (fun _ _ _ _ _ _ H => ZK rfl rfl rfl rfl rfl (Zf4 _ rfl 255 (show MT [73, 78, 68] (-1) false false false true from ⟨by decide, by decide, by decide, by decide, ⟨_, rfl, by decide, by decide, by decide⟩, by decide, by decide, by decide⟩) KQ Jp Jr _ _) H) (ZC _ 21 16) rfl
theorem w2_inir : W1 (Zn 2 (178)) ([73, 78, 73, 82]) = true := by decide +kernel
theorem ZjS (s : Cs) (hp : s.px = 0) (tq : Nat) (ix : Bool) : Zg (Zn 2 (178)) 2 s tq ix 2 (((s.manyC 6 2 : Nat) : Int)) (s.many 6 2) := by
 have hw := w2_inir
 obtain ⟨r, px, u⟩ := s
 obtain rfl : px = 0 := hp
 exact Vf hw (.inir_) (fun _ _ _ _ _ _ H => ZK rfl rfl rfl rfl rfl (Zf4 _ rfl 1 (show MT [73, 78, 73, 82] 1 true false false true from ⟨by decide, by decide, by decide, by decide, ⟨_, rfl, by decide, by decide, by decide⟩, by decide, by decide, by decide⟩) KP Jo Jq _ _) H) (ZC _ 21 16) rfl
theorem w2_indr : W1 (Zn 2 (186)) ([73, 78, 68, 82]) = true := by decide +kernel
theorem ZjT (s : Cs) (hp : s.px = 0) (tq : Nat) (ix : Bool) : Zg (Zn 2 (186)) 2 s tq ix 2 (((s.manyC 7 2 : Nat) : Int)) (s.many 7 2) := by
 have hw := w2_indr
 obtain ⟨r, px, u⟩ := s
 obtain rfl : px = 0 := hp
 exact Vf hw (.indr_) (fun _ _ _ _ _ _ H => ZK rfl rfl rfl rfl rfl (Zf4 _ rfl 255 (show MT [73, 78, 68, 82] (-1) true false false true from ⟨by decide, by decide, by decide, by decide, ⟨_, rfl, by decide, by decide, by decide⟩, by decide, by decide, by decide⟩) KQ Jp Jr _ _) H) (ZC _ 21 16) rfl
theorem w2_outi : W1 (Zn 2 (163)) ([79, 85, 84, 73]) = true := by decide +kernel
theorem ZjU (s : Cs) (hp : s.px = 0) (tq : Nat) (ix : Bool) : Zg (Zn 2 (163)) 2 s tq ix 2 (((s.manyC 4 3 : Nat) : Int)) (s.many 4 3) := by
 have hw := w2_outi
 obtain ⟨r, px, u⟩ := s
 obtain rfl : px = 0 := hp
 exact Vf hw (.outi_) (fun _ _ _ _ _ _ H => ZK rfl rfl rfl rfl rfl (vw _ rfl 1 (show MT [79, 85, 84, 73] 1 false false false false from ⟨by decide, by decide, by decide, by decide, ⟨_, rfl, by decide, by decide, by decide⟩, by decide, by decide, by decide⟩) KP Jo Jq _ _) H) (ZC _ 21 16) rfl
theorem w2_outd : W1 (Zn 2 (171)) ([79, 85, 84, 68]) = true := by decide +kernel
theorem ZjV (s : Cs) (hp : s.px = 0) (tq : Nat) (ix : Bool) : Zg (Zn 2 (171)) 2 s tq ix 2 (((s.manyC 5 3 : Nat) : Int)) (s.many 5 3) := by
 have hw := w2_outd
 obtain ⟨r, px, u⟩ := s
 obtain rfl : px = 0 := hp
 exact Vf hw (.outd_) (fun _ _ _ _ _ _ H => ZK rfl rfl rfl rfl rfl (vw _ rfl 255 (show MT [79, 85, 84, 68] (-1) false false false false from ⟨by decide, by decide, by decide, by decide, ⟨_, rfl, by decide, by decide, by decide⟩, by decide, by decide, by decide⟩) KQ Jp Jr _ _) H) (ZC _ 21 16) rfl
theorem w2_otir : W1 (Zn 2 (179)) ([79, 84, 73, 82]) = true := by decide +kernel
theorem ZjW (s : Cs) (hp : s.px = 0) (tq : Nat) (ix : Bool) : Zg (Zn 2 (179)) 2 s tq ix 2 (((s.manyC 6 3 : Nat) : Int)) (s.many 6 3) := by
 have hw := w2_otir
 obtain ⟨r, px, u⟩ := s
 obtain rfl : px = 0 := hp
 exact Vf hw (.otir_) (fun _ _ _ _ _ _ H => ZK rfl rfl rfl rfl rfl (vw _ rfl 1 (show MT [79, 84, 73, 82] 1 true false false false from ⟨by decide, by decide, by decide, by decide, ⟨_, rfl, by decide, by decide, by decide⟩, by decide, by decide, by decide⟩) KP Jo Jq _ _) H) (ZC _ 21 16) rfl
theorem w2_otdr : W1 (Zn 2 (187)) ([79, 84, 68, 82]) = true := by decide +kernel
theorem ZjX (s : Cs) (hp : s.px = 0) (tq : Nat) (ix : Bool) : Zg (Zn 2 (187)) 2 s tq ix 2 (((s.manyC 7 3 : Nat) : Int)) (s.many 7 3) := by
 have hw := w2_otdr
 obtain ⟨r, px, u⟩ := s
 obtain rfl : px = 0 := hp
 exact Vf hw (.otdr_) (fun _ _ _ _ _ _ H => ZK rfl rfl rfl rfl rfl (vw _ rfl 255 (show MT [79, 84, 68, 82] (-1) true false false false from ⟨by decide, by decide, by decide, by decide, ⟨_, rfl, by decide, by decide, by decide⟩, by decide, by decide, by decide⟩) KQ Jp Jr _ _) H) (ZC _ 21 16) rfl
def ZdP (o : Nat) : Bool := (decide (o / 64 = 1) && !(decide (o = 119)) && !(decide (o = 127))) || (decide (o / 64 = 2) && decide (4 ≤ o / 8 % 8) && decide (o % 8 < 4))
theorem w2_nop : ∀ o, o < 256 → ZdP o = false → W1 (Zn 2 o) [78, 79, 80] = true := by decide +kernel
theorem zx (s : Cs) (o : Nat) (ho : o < 256) (hr : ZdP o = false) (tq : Nat) (ix : Bool) : Zg (Zn 2 o) 2 s tq ix 0 8 s :=
 Vf (w2_nop o ho hr) .nop_ (fun _ _ _ _ _ _ H => ZlP H) rfl rfl
theorem jT (v : Value) (hv : ∃ g N, v = .slice (some ⟨g, 0, none⟩) N N) (w : World) : (Instr.build 43 #[(0, v)]).run Tryz.prog w = .ok (.agg #[v, .pointer none, .slice none 0 0, .bool false, .int .u8 0, .slice none 0 0]) w := by
 obtain ⟨g, N, rfl⟩ := hv
 kernel_rfl
theorem ZdQ {g b gm N : Nat} {m : Nat → Nat} {l R : Zj} {lv : Value} (h8 : ∀ i, m i < 256) (hN : N = 65536)
  (h : Own W0 w ((g, 43, [.slice (some ⟨gm, 0, none⟩) N N, .pointer none, .slice none 0 0, .bool false, .int .u8 0, .slice none 0 0]) :: (b, 39, [.slice (some ⟨gm, 0, none⟩) N N, lv]) :: (gm, 5, Zz m) :: (R ++ l))) : Fx W0 w g ⟨m, []⟩ l 1000000 := by
 subst hN
 have hp := h.perm (l' := ((b, 39, [.slice (some ⟨gm, 0, none⟩) 65536 65536, lv]) :: R) ++ ((g, 43, [.slice (some ⟨gm, 0, none⟩) 65536 65536, .pointer none, .slice none 0 0, .bool false, .int .u8 0, .slice none 0 0]) :: (gm, 5, Zz m) :: l)) (by
  refine (List.Perm.swap _ _ _).trans ?_
  refine .cons _ ?_
  exact (List.perm_middle.trans (.cons _ List.perm_middle)).symm)
 exact ⟨⟨h8, by show 0 + 1000000 ≤ 1000000; decide⟩, _, ⟨gm, .slice none 0 0, [], .slice none 0 0, [], 0, [], rfl, Yv.nil _ _, Nat.zero_le _, Yv.nil _ _⟩, hp.tail.perm (List.perm_append_comm (l₁ := [_, _]))⟩
theorem ZjY (at_ f cap : Nat) (ys : List Nat) (a : Option Addr) (ha : at_ < 65536) (hl : ys.length ≤ 65536) (hR : Hid (ZcJ W0 l a ys)) (h : Hid (Own W0 w l)) :
  Calls Tryz.prog 8 #[.int .u16 (at_ : Int), .slice a ys.length cap, .int .u8 (f : Int)] w fun e w' => ∃ b, e = .returned (.pointer (some ⟨b, 0, none⟩)) ∧ Hid (Fx W0 w' b ⟨lay (bas f) at_ ys, []⟩ l 1000000) := by
 obtain ⟨n, hn⟩ : ∃ n, Hid (ys.length = n) := ⟨_, rfl⟩
 have hbox := Zb (ZcL at_ f cap ys a ha hl hR h)
 rw [hn.out] at hbox ⊢
 clear h hl ha
 go_enter Tryz.func8, Tryz.ntmps8
 go_wp2_with (first | (go_at_call 7; (with_reducible refine hbox.out.mono ?_); clear hbox; rintro e w' ⟨b, rfl, hB⟩; obtain ⟨hg, X, ⟨gm, lv, R, rfl, hRow⟩, hO⟩ := hB.out; have HG := Zb hg; obtain ⟨N, hN⟩ : ∃ N : Nat, Hid (N = 65536) := ⟨_, rfl⟩; rw [← hN.out] at hO; have HM := Zb (hO.perm List.perm_append_comm); simp only [List.cons_append] at HM; have hbw := jT _ ⟨gm, N, rfl⟩; clear hB hO hg hRow) | ((with_reducible apply Ua hbw); exact rfl; exact rfl; exact rfl) | (refine a0 ?_; clear HM; intro w' g' HM) | refine a48 ?_ | (refine a49 ?_; clear HM; intro w' HM))
 go_ret
 exact ⟨_, rfl, Zb (ZdQ HG.out.1 hN.out HM.out)⟩
def ZdR (w : World) (a : Option Addr) (g : List Int) : Prop := 0 < g.length → ∃ b, a = some ⟨b, 0, none⟩ ∧ ∀ (j : Nat) (y : Int), g[j]? = some y → w.cell? ⟨b, j, none⟩ = some (.int .i64 y)
theorem ZaX (g : List Int) (hg : g.length ≤ 1000000) (n : Nat) (hn : Hid (g.length = n)) (a1 a2 : Option Addr) (c1 c2 : Nat) (w : World) (h1 : Hid (ZdR w a1 g)) (h2 : Hid (ZdR w a2 g)) :
  CB 11 #[.slice a1 n c1, .slice a2 n c2] w (.bool true) := by
 have n1 : n ≤ 1000000 := by rw [← hn.out]; exact hg
 have HN := Zb n1
 have HM := Zb (Own.start w)
 clear hg n1
 go_enter Tryz.func11, Tryz.ntmps11
 go_wp2_with fail
 go_loopw [13] (fun i wr => ∃ k : Nat, k ≤ n ∧ i = .int .i64 (k : Int) ∧ Hid (Own w wr [])) (fun i _ => n - (intOf i).toNat)
 case atStart => exact ⟨0, by omega, rfl, HM⟩
 case round =>
  clear HM
  obtain ⟨k, hk, rfl, HM⟩ := hrel
  by_cases hlt : k < n
  ·have hn' := hn.out
   have hN' := HN.out
   obtain ⟨y, hy⟩ : ∃ y, g[k]? = some y := ⟨_, List.getElem?_eq_getElem (by omega)⟩
   obtain ⟨b1, rfl, q1⟩ := h1.out (by omega)
   obtain ⟨b2, rfl, q2⟩ := h2.out (by omega)
   have d1 := Zb (q1 k y hy)
   have d2 := Zb (q2 k y hy)
   have hlt2 : (k : Int) < (n : Int) := by omega
   have k1 : (k : Int) < 1000000 := by omega
   clear h1 h2 q1 q2 hn hn' hy hk hN'
   go_wp2_with fail
   (refine Zo HM (by kernel_rfl) (by kernel_rfl) ?_; (try simp only [Act.put, Ze, Zc, Zd]); repeat ((fail_if_success (with_reducible refine wpQuiet_nil ?_)); first | go_big_quiet_skip | (go_big_quiet_want; first | (refine a24 ?_; go_big_quiet_op; go_big_quiet_on) | ((with_reducible apply Vi); exact rfl; (first | (with_reducible exact oneInt) | (with_reducible exact oneU8) | (with_reducible exact oneBool) | (with_reducible exact oneU16) | (with_reducible exact oneStr)); (first | (with_reducible exact d1.out) | (with_reducible exact d2.out)); exact rfl; go_big_quiet_op; go_big_quiet_on) | (go_big_quiet_op; go_big_quiet_on) | (go_big_quiet_op; refine ⟨_, fun _ _ => rfl, ?_⟩; go_big_quiet_on))))
   refine wpQuiet_nil ?_
   intro w' HM'
   clear HM; have HM := HM'; clear HM'
   go_wp2_with fail
   go_roundw
   case rel => exact ⟨k + 1, by omega, by go_num, HM⟩
   case measure => simp [intOf]; omega
  ·obtain rfl : k = n := by omega
   clear hlt hk
   go_wp2_with fail
   go_ret
   exact ⟨rfl, HM.out.below⟩
theorem ZgS {R : Zj} {v : Value} {g : List Int} (h : Yv 3 1 R v g.length (zE g)) : ∃ a c, v = .slice a g.length c ∧ ∀ w, (∀ e ∈ R, ZL w e.1 e.2.1 e.2.2) → ZdR w a g := by
 obtain ⟨hl, ⟨-, rfl, h0⟩ | ⟨gb, cap, cur, rfl, rfl, h1, h2, h3, h4⟩⟩ := h
 ·exact ⟨none, 0, by rw [h0], fun w _ hp => absurd hp (by omega)⟩
 ·refine ⟨_, _, rfl, fun w hw _ => ⟨gb, rfl, fun j y hy => ?_⟩⟩
  have hj : j < g.length := (List.getElem?_eq_some_iff.1 hy).1
  have hW := hw (gb, 3, cur) (by simp)
  rw [hW.at_ j]
  have e : (cur.take (g.length * 1))[j]? = cur[j]? := by rw [List.getElem?_take, if_pos (by omega)]
  rw [← e, h4]
  unfold zE
  rw [List.getElem?_map, hy]
  rfl
end
end Go.Proofs.YtgdeeiimkhjfiaaGreatDoor
