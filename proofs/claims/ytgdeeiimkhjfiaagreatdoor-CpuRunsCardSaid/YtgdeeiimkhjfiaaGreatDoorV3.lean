import Derived.Test.YtgdeeiimkhjfiaaGreatDoorV2
set_option maxRecDepth 100000
set_option maxHeartbeats 6400000
namespace Go.Proofs.YtgdeeiimkhjfiaaGreatDoor
open Go.RowKit
section
variable {W0 w : World} {x b tq n c : Nat} {s : Cs} {ix : Bool} {pg : Int} {l : Zj}
theorem zQ (f : Nat) (h : f < 256) : (f &&& 1 = 0 ∧ Zf 1 f = false) ∨ (f &&& 1 = 1 ∧ Zf 1 f = true) := by
 have h := Zu (p := fun f => or (and (Nat.beq (Nat.land f 1) 0) (not (Zf 1 f))) (and (Nat.beq (Nat.land f 1) 1) (Zf 1 f))) (n := 256) (by decide +kernel) f h
 exact k55
theorem and1 (f m : Nat) (h : f < 256) (hm : f &&& 1 = m) : bits .and .u8 (f : Int) 1 = (m : Int) := by
 rw [u8_and _ _ (by omega) (by omega) (by omega) (by omega), Int.toNat_natCast, ← hm]; rfl
theorem Zhk (op : Int) (a f v g : Nat) (ha : a < 256) (hf : f < 256) (hv : Hid (KT op a = v)) (hg : Hid (Vk op a f = g)) (w : World) :
  CW 203 #[.int .i64 op, .int .u8 (a : Int), .int .u8 (f : Int)] w (.tuple #[.int .u8 (v : Int), .int .u8 (g : Int)]) := by
 have hc : op = 0 ∨ op = 1 ∨ op = 2 ∨ (op ≠ 0 ∧ op ≠ 1 ∧ op ≠ 2) := by omega
 rcases hc with rfl | rfl | rfl | ⟨h0, h1, h2⟩
 ·have HV : Hid (255 - a = v) := hv
  have HG : Hid (Zgq a f = g) := by show _ = _; rw [vV a f ha hf]; exact hg.out
  have hn := not8 a ha
  rw [HV.out] at hn
  have v1 : v < 256 := by rw [← HV.out]; omega
  clear hv hg
  go_enter Tryz.func203, Tryz.ntmps203
  go_wp2
  go_ret2
  refine ⟨ZR rfl ?_, rfl⟩
  clear hn
  rw [← HG.out]
  simp (disch := exact bS) only [u8_and, u8_or, Int.reduceToNat, Int.toNat_natCast]
  show _ = ((Nat.lor (Nat.lor (Nat.lor (Nat.lor (Nat.land f 196) (Nat.land f 1)) 16) 2) (Nat.land (255 - a) 40) : Nat) : Int)
  rw [HV.out]
  rfl
 ·have HV : Hid (a = v) := hv
  have HG : Hid (Zgr a f = g) := by show _ = _; rw [vW a f ha hf]; exact hg.out
  clear hv hg
  go_enter Tryz.func203, Tryz.ntmps203
  go_wp2
  go_ret2
  refine ⟨ZR (by rw [HV.out]) ?_, rfl⟩
  rw [← HG.out]
  simp (disch := exact bS) only [u8_and, u8_or, Int.reduceToNat, Int.toNat_natCast]
  rfl
 ·have HV : Hid (a = v) := hv
  have HG : Hid (Zbz a f = g) := by show _ = _; rw [vX a f ha hf]; exact hg.out
  clear hv hg
  rcases zQ f hf with ⟨h1, h2⟩ | ⟨h1, h2⟩
  all_goals
   have hm := and1 f _ hf h1
   have HH := Zb (And.intro h1 h2)
   clear h1 h2
   go_enter Tryz.func203, Tryz.ntmps203
   go_wp2_with (go_at_call 218; refine (yf _ 16 _).mono ?_; rintro e w' ⟨rfl, rfl⟩)
   go_ret2
   refine ⟨ZR (by rw [HV.out]) ?_, rfl⟩
   rw [← HG.out]
   have e1 : Nat.land f 1 = _ := HH.out.1
   unfold Zbz
   rw [HH.out.2, e1]
   exact k66
 ·have HV : Hid (a = v) := by show _ = _; rw [← hv.out]; unfold KT; rw [if_neg h0]
  have HG : Hid (f = g) := by show _ = _; rw [← hg.out]; unfold Vk; rw [if_neg h0, if_neg h1, if_neg h2]
  clear hv hg
  have b0 : (op == 0) = false := by simpa using h0
  have b1 : (op == 1) = false := by simpa using h1
  have b2 : (op == 2) = false := by simpa using h2
  clear h0 h1 h2
  go_enter Tryz.func203, Tryz.ntmps203
  go_wp2
  go_ret2
  exact ⟨ZR (by rw [HV.out]) (by rw [HG.out]), rfl⟩
theorem do_at (op : Int) (k a b f v g : Nat) (hk : op % 8 = (k : Int)) (ha : a < 256) (hb : b < 256) (hf : f < 256) (hv : Hid (Zeb k a b f = v)) (hg : Hid (Zec k a b f = g)) (w : World) :
  CW 151 #[.int .i64 op, .int .u8 (a : Int), .int .u8 (b : Int), .int .u8 (f : Int)] w (.tuple #[.int .u8 (v : Int), .int .u8 (g : Int)]) := by
 have h7 := K6 op
 rw [hk] at h7
 have hc : k = 0 ∨ k = 1 ∨ k = 2 ∨ k = 3 ∨ k = 4 ∨ k = 5 ∨ k = 6 ∨ k = 7 := by omega
 clear hk
 obtain ⟨c, hcc⟩ : ∃ c, Zf 1 f = c := ⟨_, rfl⟩
 rcases zQ f hf with ⟨h1, h2⟩ | ⟨h1, h2⟩
 all_goals
  have hm := and1 f _ hf h1
  clear h1
  rcases hc with rfl | rfl | rfl | rfl | rfl | rfl | rfl | rfl
 all_goals
  unfold Zeb at hv
  unfold Zec at hg
  first | rw [h2] at hv hg | skip
  clear h2
  go_enter Tryz.func151, Tryz.ntmps151
  go_wp2_with (first | (go_at_call 182; (first | refine (yg a b false v g ha hb hv hg _).mono ?_ | refine (yg a b true v g ha hb hv hg _).mono ?_); rintro e w' ⟨rfl, rfl⟩) | (go_at_call 123; (first | refine (V2 a b false v g ha hb hv hg _).mono ?_ | refine (V2 a b true v g ha hb hv hg _).mono ?_); rintro e w' ⟨rfl, rfl⟩) | (go_at_call 204; refine (Zkp a b v g ha hb hv (by rw [← hv.out]; exact hg) _).mono ?_; rintro e w' ⟨rfl, rfl⟩) | (go_at_call 205; refine (Zkq a b v g ha hb hv (by rw [← hv.out]; exact hg) _).mono ?_; rintro e w' ⟨rfl, rfl⟩) | (go_at_call 206; refine (or_at a b v g ha hb hv (by rw [← hv.out]; exact hg) _).mono ?_; rintro e w' ⟨rfl, rfl⟩) | (go_at_call 207; refine (vU a b g ha hb hg _).mono ?_; rintro e w' ⟨rfl, rfl⟩))
  go_ret2
  exact ⟨ZR (by first | rfl | (rw [show a = v from hv])) rfl, rfl⟩
def ZbA (v a f : Nat) : Nat := Nat.lor (Nat.lor (Nat.lor (nBitsF v false) (Nat.land f 2)) (cond (Kp a f) 1 0)) (Nat.land (Nat.xor a v) 16)
def cDaa (a f : Nat) : Nat := ZbA (KS a f) a f
theorem Zet (a f : Nat) (ha : a < 256) (hf : f < 256) : cDaa a f = Um a f :=
 Nat.eq_of_beq_eq_true (Yb (p := fun a f => Nat.beq (cDaa a f) (Um a f)) (by decide +kernel) a f ha hf)
theorem Zhl (f : Nat) (h : f < 256) : (f &&& 2 = 0 ∧ Zf 2 f = false) ∨ (f &&& 2 = 2 ∧ Zf 2 f = true) := by
 have h := Zu (p := fun f => or (and (Nat.beq (Nat.land f 2) 0) (not (Zf 2 f))) (and (Nat.beq (Nat.land f 2) 2) (Zf 2 f))) (n := 256) (by decide +kernel) f h
 exact k55
theorem Zeu (f : Nat) (h : f < 256) : (f &&& 16 = 0 ∧ Zf 16 f = false) ∨ (f &&& 16 = 16 ∧ Zf 16 f = true) := by
 have h := Zu (p := fun f => or (and (Nat.beq (Nat.land f 16) 0) (not (Zf 16 f))) (and (Nat.beq (Nat.land f 16) 16) (Zf 16 f))) (n := 256) (by decide +kernel) f h
 exact k55
theorem andk (f k m : Nat) (h : f < 256) (hk : k < 256) (hm : f &&& k = m) : bits .and .u8 (f : Int) (k : Int) = (m : Int) := by
 rw [u8_and_nat f k h hk, hm]
theorem ZbB (a f : Nat) (hf : f < 256) : (f &&& 16 = 16 ∧ true = Zbf a f) ∨ (f &&& 16 = 0 ∧ decide ((9 : Int) < (a : Int) % 16) = Zbf a f) := by
 unfold Zbf
 rcases Zeu f hf with ⟨h1, h2⟩ | ⟨h1, h2⟩
 ·right
  rw [h2, Bool.false_or, Bool.eq_iff_iff, decide_eq_true_eq, Nat.ble_eq]
  refine ⟨h1, ?_⟩
  show _ ↔ 10 ≤ a % 16
  omega
 ·left
  exact ⟨h1, by rw [h2, Bool.true_or]⟩
theorem vY (a f : Nat) (hf : f < 256) : (f &&& 1 = 1 ∧ true = Kp a f) ∨ (f &&& 1 = 0 ∧ decide ((153 : Int) < (a : Int)) = Kp a f) := by
 unfold Kp
 rcases zQ f hf with ⟨h1, h2⟩ | ⟨h1, h2⟩
 ·right
  rw [h2, Bool.false_or, Bool.eq_iff_iff, decide_eq_true_eq, Nat.ble_eq]
  refine ⟨h1, ?_⟩
  omega
 ·left
  exact ⟨h1, by rw [h2, Bool.true_or]⟩
theorem Zkr (a f v g : Nat) (ha : a < 256) (hf : f < 256) (hv : Hid (KS a f = v)) (hg : Hid (Um a f = g)) (w : World) :
  CW 202 #[.int .u8 (a : Int), .int .u8 (f : Int)] w (.tuple #[.int .u8 (v : Int), .int .u8 (g : Int)]) := by
 have v1 : v < 256 := by rw [← hv.out]; exact Uo _ _
 have h15 : bits .and .u8 (a : Int) 15 = (a : Int) % 16 := u8_and15 _ (by omega) (by omega)
 obtain ⟨s, hs⟩ : ∃ s, Hid (nBitsF v false = s) := ⟨_, rfl⟩
 have s1 : s < 256 := by rw [← hs.out]; exact YV _ _
 have hG : ZbA v a f = g := by rw [← hg.out, ← Zet a f ha hf]; unfold cDaa; rw [hv.out]
 unfold ZbA at hG
 rw [hs.out] at hG
 have hV := hv.out
 clear hv hg
 unfold KS at hV
 have hlow := ZbB a f hf
 have hhigh := vY a f hf
 obtain ⟨lb, hlb⟩ : ∃ lb, Zbf a f = lb := ⟨_, rfl⟩
 obtain ⟨hb, hhb⟩ : ∃ hb, Kp a f = hb := ⟨_, rfl⟩
 rw [hlb] at hlow hV
 rw [hhb] at hhigh hV hG
 clear hlb hhb
 obtain ⟨L, hL⟩ : ∃ L, cond lb 6 0 = L := ⟨_, rfl⟩
 obtain ⟨H, hH⟩ : ∃ H, cond hb 96 0 = H := ⟨_, rfl⟩
 obtain ⟨K, hK⟩ : ∃ K, cond hb 1 0 = K := ⟨_, rfl⟩
 have L1 : (L : Int) ≤ 6 := by rw [← hL]; cases lb <;> decide
 have H1 : (H : Int) ≤ 96 := by rw [← hH]; cases hb <;> decide
 have K1 : (K : Int) ≤ 1 := by rw [← hK]; cases hb <;> decide
 have HB : Hid (hb = true ↔ (H : Int) ≠ 0) := by show _ ↔ _; rw [← hH]; cases hb <;> decide
 rw [hL, hH] at hV
 rw [hK] at hG
 have HL := Zb hL
 have HH := Zb hH
 have HK := Zb hK
 clear hL hH hK
 have L0 : L ≤ 6 := by omega
 have H0 : H ≤ 96 := by omega
 have K0 : K < 256 := by omega
 rcases hlow with ⟨l1, l3⟩ | ⟨l1, l3⟩
 all_goals
  have hl := andk f 16 _ hf (by omega) l1
  have HL2 := Zb l3
  clear l1 l3
  rcases hhigh with ⟨k1, k3⟩ | ⟨k1, k3⟩
 all_goals
  have hh := andk f 1 _ hf (by omega) k1
  have HH2 := Zb k3
  clear k1 k3
  rcases Zhl f hf with ⟨n1, n2⟩ | ⟨n1, n2⟩
 all_goals
  rw [n2] at hV
  rw [show Nat.land f 2 = f &&& 2 from rfl, n1] at hG
  have hn := andk f 2 _ hf (by omega) n1
  have HG := Zb hG
  first
   | (have hv2 : ((a : Int) + (L : Int) + (H : Int)) % 256 = (v : Int) := by (have hV' : (a + L + H) % 256 = v := hV; omega))
   | (have hv2 : ((a : Int) - (L : Int) - (H : Int)) % 256 = (v : Int) := by (have hV' : (a + 512 - (L + H)) % 256 = v := hV; omega))
  clear hV hG n1 n2 L0 H0
  simp only [Int.cast_ofNat_Int] at hl hh hn
  go_enter Tryz.func202, Tryz.ntmps202
  go_wp2_with (first | (go_at_call 218; first | (refine (Kx _ 6 lb L HL2.out HL _).mono ?_; rintro e w' ⟨rfl, rfl⟩) | (refine (Kx _ 96 hb H HH2.out HH _).mono ?_; rintro e w' ⟨rfl, rfl⟩) | (refine (Kx _ 1 hb K (by have hq := HB.out; rw [Bool.eq_iff_iff, hq]; simp) HK _).mono ?_; rintro e w' ⟨rfl, rfl⟩)) | (go_at_call 227; (with_reducible refine (Yf v s v1 hs _).mono ?_); rintro e w' ⟨rfl, rfl⟩))
  go_ret2
  refine ⟨ZR rfl ?_, rfl⟩
  rw [← HG.out]
  clear hl hh hn
  exact k66
theorem K7 {a b : Int} {v f : Nat} (h : a = (v : Int)) (h' : b = (f : Int)) : (Ending.returned (.tuple #[.int .u16 a, .int .u8 b]) : Ending) = .returned (.tuple #[.int .u16 (v : Int), .int .u8 (f : Int)]) := by rw [h, h']
theorem Zhm {a b : Int} {v f : Nat} (h : a = (v : Int)) (h' : b = (f : Int)) : (Ending.returned (.tuple #[.int .u8 a, .int .u8 b]) : Ending) = .returned (.tuple #[.int .u8 (v : Int), .int .u8 (f : Int)]) := by rw [h, h']
theorem yh {a : Int} {v : Nat} (h : a = (v : Int)) : (Ending.returned (.int .u16 a) : Ending) = .returned (.int .u16 (v : Int)) := by rw [h]
theorem UA (v r : Nat) (hv : v < 65536) (hr : Hid (Zx v = r)) (w : World) : CW 189 #[.int .u16 (v : Int)] w (.int .u8 (r : Int)) := by
 go_enter Tryz.func189, Tryz.ntmps189
 go_wp2
 go_ret
 refine ⟨YN ?_, rfl⟩
 have h : v / 256 = r := hr.out
 omega
theorem Z7 (v h l : Nat) (hv : v < 65536) (hh : Hid (Zx v = h)) (hl : Hid (v % 256 = l)) (w : World) :
  CW 128 #[.int .u16 (v : Int)] w (.tuple #[.int .u8 (h : Int), .int .u8 (l : Int)]) := by
 have e : (v : Int) % 256 = (l : Int) := by have := hl.out; omega
 go_enter Tryz.func128, Tryz.ntmps128
 go_wp2_with (go_at_call 189; (with_reducible refine (UA v h hv hh _).mono ?_); rintro e w' ⟨rfl, rfl⟩)
 go_ret2
 exact ⟨Zhm rfl e, rfl⟩
theorem YF (h l v : Nat) (hh : h < 256) (hl : l < 256) (hv : Hid (h * 256 + l = v)) (w : World) :
  CW 117 #[.int .u8 (h : Int), .int .u8 (l : Int)] w (.int .u16 (v : Int)) := by
 have e : bits .or .u16 ((h : Int) * 256) (l : Int) = (v : Int) := by
  rw [show ((h : Int) * 256) = ((h * 256 : Nat) : Int) by omega, u16_or_nat _ _ (by omega) (by omega), nat_join 8 _ _ (by omega) (by omega), hv.out]
 go_enter Tryz.func117, Tryz.ntmps117
 go_wp2
 go_ret
 exact ⟨rfl, rfl⟩
theorem k67 {P : Prop} (h : P := by
 subst e
 go_enter Tryz.func217, Tryz.ntmps217
 go_wp2
 go_ret
 exact ⟨rfl, rfl⟩) : P := h
theorem Zhn (v r : Nat) (hr : Hid (cond (nZ v) 64 0 = r)) (w : World) : CW 217 #[.int .u16 (v : Int)] w (.int .u8 (r : Int)) := by
 by_cases h : (v : Int) = 0
 ·have e : v = 0 := by omega
  subst e
  have e : 64 = r := hr.out
  exact k67
 ·have e : 0 = r := by
   rw [← hr.out, show nZ v = false from by unfold nZ; rw [← Bool.not_eq_true, Nat.beq_eq]; omega]; rfl
  exact k67
theorem Vp (a b c v t : Nat) (ha : a < 65536) (hb : b < 65536) (hc : c ≤ 1) (hv : Hid (Yu a b c = v)) (ht : Hid (VQ a b c = t)) (w : World) :
  CW 216 #[.int .u16 (a : Int), .int .u16 (b : Int), .int .u8 (c : Int)] w (.tuple #[.int .u16 (v : Int), .int .u8 (t : Int)]) := by
 have v1 : v < 65536 := by rw [← hv.out]; exact Ys _ _ _
 obtain ⟨x, hx⟩ : ∃ x, a ^^^ b ^^^ v = x := ⟨_, rfl⟩
 have x1 : x < 65536 := by rw [← hx]; exact Nat.xor_lt_two_pow (n := 16) (Nat.xor_lt_two_pow (n := 16) ha hb) v1
 obtain ⟨h, hh⟩ : ∃ h, Hid (Zx x = h) := ⟨_, rfl⟩
 have h1 : h < 256 := by rw [← hh.out]; exact Yd _ x1
 have HT : Hid (((a + b + c) / 65536 &&& 1) ||| (h &&& 16) = t) := by
  have h := Zbo a b c v ha hb hc hv.out
  rw [hx, hh.out, ht.out] at h
  exact h
 have e1 : IntKind.u16.wrap ((a : Int) + (b : Int) + (c : Int)) = (v : Int) := by
  have : (a + b + c) % 65536 = v := hv.out
  rw [IntKind.wrap_u16]
  omega
 have ab : a ^^^ b < 65536 := Nat.xor_lt_two_pow (n := 16) ha hb
 have e2 : bits .xor .u16 (bits .xor .u16 (a : Int) (b : Int)) (v : Int) = (x : Int) := by
  rw [u16_xor_nat a b ha hb, u16_xor_nat _ v ab v1, hx]
 clear hv ht hx ab
 go_enter Tryz.func216, Tryz.ntmps216
 go_wp2_with (go_at_call 189; (with_reducible refine (UA x h x1 hh _).mono ?_); rintro e w' ⟨rfl, rfl⟩)
 go_ret2
 refine ⟨K7 rfl ?_, rfl⟩
 rw [← HT.out]
 obtain ⟨q, hq⟩ : ∃ q, (a + b + c) / 65536 = q := ⟨_, rfl⟩
 have q1 : q < 256 := by omega
 have e3 : ((a : Int) + (b : Int) + (c : Int)) / 65536 = (q : Int) := by omega
 rw [hq, e3, u8_and q 1 (by omega) (by omega) (by omega) (by omega), u8_and h 16 (by omega) (by omega) (by omega) (by omega)]
 exact u8_or_nat (q &&& 1) (h &&& 16) (vC q1) (vC h1)
theorem Zev (f c : Nat) (hf : f < 256) (hc : Hid (f % 2 = c)) : bits .and .u8 (f : Int) 1 = (c : Int) := by
 rw [u8_and f 1 (by omega) (by omega) (by omega) (by omega), ← hc.out, ← Nat.and_one_is_mod]; rfl
theorem Zgs (a b f c v g : Nat) (ha : a < 65536) (hb : b < 65536) (hf : f < 256) (hc : Hid (f % 2 = c)) (hv : Hid (Yu a b c = v)) (hg : Hid (JX a b c = g)) (w : World) :
  CW 180 #[.int .u16 (a : Int), .int .u16 (b : Int), .int .u8 (f : Int)] w (.tuple #[.int .u16 (v : Int), .int .u8 (g : Int)]) := by
 have c1 : c ≤ 1 := by have := hc.out; omega
 have v1 : v < 65536 := by rw [← hv.out]; exact Ys _ _ _
 have hf1 := Zev f c hf hc
 obtain ⟨t, ht⟩ : ∃ t, Hid (VQ a b c = t) := ⟨_, rfl⟩
 have t1 : t < 256 := by rw [← ht.out]; exact j8 _ _ _
 obtain ⟨h, hh⟩ : ∃ h, Hid (Zx v = h) := ⟨_, rfl⟩
 have h1 : h < 256 := by rw [← hh.out]; exact Yd _ v1
 obtain ⟨z, hz⟩ : ∃ z : Nat, Hid (cond (nZ v) 64 0 = z) := ⟨_, rfl⟩
 have z1 : z < 256 := by rw [← hz.out]; cases nZ v <;> decide
 obtain ⟨m, hm⟩ : ∃ m, (a ^^^ v) &&& (b ^^^ v) = m := ⟨_, rfl⟩
 have av : a ^^^ v < 65536 := Nat.xor_lt_two_pow (n := 16) ha v1
 have bv : b ^^^ v < 65536 := Nat.xor_lt_two_pow (n := 16) hb v1
 have m1 : m < 65536 := by rw [← hm]; exact Nat.lt_of_le_of_lt Nat.and_le_left av
 have HG : Hid (((t ||| (m / 8192 &&& 4)) ||| (h &&& 168)) ||| z = g) := by
  have h := vM a b c v t g z ha hb c1 hv.out ht.out hg.out hz.out
  rw [hm, hh.out] at h
  exact h
 have e2 : bits .and .u16 (bits .xor .u16 (a : Int) (v : Int)) (bits .xor .u16 (b : Int) (v : Int)) = (m : Int) := by
  rw [u16_xor_nat a v ha v1, u16_xor_nat b v hb v1, u16_and_nat _ _ av bv, hm]
 clear hg hm av bv
 go_enter Tryz.func180, Tryz.ntmps180
 go_wp2_with (first | (go_at_call 216; (with_reducible refine (Vp a b c v t ha hb c1 hv ht _).mono ?_); rintro e w' ⟨rfl, rfl⟩) | (go_at_call 189; (with_reducible refine (UA v h v1 hh _).mono ?_); rintro e w' ⟨rfl, rfl⟩) | (go_at_call 217; (with_reducible refine (Zhn v z hz _).mono ?_); rintro e w' ⟨rfl, rfl⟩))
 go_ret2
 refine ⟨K7 rfl ?_, rfl⟩
 rw [← HG.out]
 obtain ⟨q, hq⟩ : ∃ q, m / 8192 = q := ⟨_, rfl⟩
 have q1 : q < 256 := by omega
 have e3 : (m : Int) / 8192 = (q : Int) := by omega
 rw [hq, e3]
 clear e3 hq e2 hf1
 simp (disch := exact bS) only [u8_and, Int.reduceToNat, Int.toNat_natCast]
 simp (disch := exact bS) only [u8_or, Int.toNat_natCast]
theorem Zho (a b f v g : Nat) (ha : a < 65536) (hb : b < 65536) (hf : f < 256) (hv : Hid (Yu a b 0 = v)) (hg : Hid (VR a b f = g)) (w : World) :
  CW 199 #[.int .u16 (a : Int), .int .u16 (b : Int), .int .u8 (f : Int)] w (.tuple #[.int .u16 (v : Int), .int .u8 (g : Int)]) := by
 have v1 : v < 65536 := by rw [← hv.out]; exact Ys _ _ _
 obtain ⟨t, ht⟩ : ∃ t, Hid (VQ a b 0 = t) := ⟨_, rfl⟩
 have t1 : t < 256 := by rw [← ht.out]; exact j8 _ _ _
 obtain ⟨h, hh⟩ : ∃ h, Hid (Zx v = h) := ⟨_, rfl⟩
 have h1 : h < 256 := by rw [← hh.out]; exact Yd _ v1
 have HG : Hid ((t ||| (f &&& 196)) ||| (h &&& 40) = g) := by
  have h := vL a b f v t g hf hv.out ht.out hg.out
  rw [hh.out] at h
  exact h
 clear hg
 go_enter Tryz.func199, Tryz.ntmps199
 go_wp2_with (first | (go_at_call 216; refine (Vp a b 0 v t ha hb (by omega) hv ht _).mono ?_; rintro e w' ⟨rfl, rfl⟩) | (go_at_call 189; (with_reducible refine (UA v h v1 hh _).mono ?_); rintro e w' ⟨rfl, rfl⟩))
 go_ret2
 refine ⟨K7 rfl ?_, rfl⟩
 rw [← HG.out]
 simp (disch := exact bS) only [u8_and, Int.reduceToNat, Int.toNat_natCast]
 simp (disch := exact bS) only [u8_or, Int.toNat_natCast]
theorem not16 (b : Nat) (h : b < 65536) : bits .xor .u16 IntKind.u16.max (b : Int) = ((65535 - b : Nat) : Int) := by
 show bits .xor .u16 65535 (b : Int) = _
 rw [u16_xor _ _ (by omega) (by omega) (by omega) (by omega), Int.toNat_natCast]
 refine congrArg _ ?_
 show 65535 ^^^ b = 65535 - b
 have e : b = 65535 - (65535 - b) := by omega
 have h1 : (65535 ^^^ b) = (BitVec.allOnes 16 ^^^ BitVec.ofNat 16 b).toNat := by
  rw [BitVec.toNat_xor, BitVec.toNat_allOnes, BitVec.toNat_ofNat, Nat.mod_eq_of_lt h]
 rw [h1, BitVec.allOnes_xor, BitVec.toNat_not, BitVec.toNat_ofNat, Nat.mod_eq_of_lt h]
theorem Zks (a b f c v g : Nat) (ha : a < 65536) (hb : b < 65536) (hf : f < 256) (hc : Hid (f % 2 = c)) (hv : Hid (Jg a b c = v)) (hg : Hid (Vl a b c = g)) (w : World) :
  CW 179 #[.int .u16 (a : Int), .int .u16 (b : Int), .int .u8 (f : Int)] w (.tuple #[.int .u16 (v : Int), .int .u8 (g : Int)]) := by
 have c1 : c ≤ 1 := by have := hc.out; omega
 have hs := zN a b c ha hb c1
 rw [hv.out, hg.out] at hs
 obtain ⟨k, hk⟩ : ∃ k, JX a (65535 - b) (1 - c) = k := ⟨_, rfl⟩
 have k1 : k < 256 := by rw [← hk]; exact Ut _ _ _
 have HG : Hid ((k ^^^ 17) ||| 2 = g) := by have h := hs.2; rw [hk] at h; exact h
 obtain ⟨n, hn⟩ : ∃ n, 65535 - b = n := ⟨_, rfl⟩
 have n1 : n < 65536 := by omega
 have e1 := not16 b hb
 rw [hn] at e1 hs hk
 obtain ⟨f', hf'⟩ : ∃ f', f ^^^ 1 = f' := ⟨_, rfl⟩
 have f1 : f' < 256 := by rw [← hf']; exact ZgZ hf (by omega)
 have e2 : bits .xor .u8 (f : Int) 1 = (f' : Int) := by
  rw [u8_xor f 1 (by omega) (by omega) (by omega) (by omega), ← hf']; rfl
 have hc' : Hid (f' % 2 = 1 - c) := by
  have h := Vm 0 f 1
  simp only [Nat.pow_zero, Nat.div_one] at h
  rw [hf'] at h
  have := hc.out
  show f' % 2 = 1 - c
  omega
 have HV := Zb hs.1
 have HK := Zb hk
 clear hs hk hn hf' hv hg c1 hc
 go_enter Tryz.func179, Tryz.ntmps179
 go_wp2_with (go_at_call 180; (with_reducible refine (Zgs a n f' (1 - c) v k ha n1 f1 hc' HV HK _).mono ?_); rintro e w' ⟨rfl, rfl⟩)
 go_ret2
 refine ⟨K7 rfl ?_, rfl⟩
 rw [← HG.out]
 simp (disch := exact bS) only [u8_xor, u8_or, Int.reduceToNat, Int.toNat_natCast]
theorem Y8 (v b r : Nat) (_hv : v < 65536) (hb : b < 256) (hr : Hid (wMove v b = r)) (w : World) :
  CW 127 #[.int .u16 (v : Int), .int .u8 (b : Int)] w (.int .u16 (r : Int)) := by
 by_cases h : (128 : Int) ≤ (b : Int)
 ·have e : (v + (b + 65280)) % 65536 = r := by
   have h2 := hr.out
   unfold wMove at h2
   rw [show Nat.ble 128 b = true from Zkj (by omega)] at h2
   exact h2
  go_enter Tryz.func127, Tryz.ntmps127
  go_wp2
  go_ret
  refine ⟨yh ?_, rfl⟩
  have e8 : IntKind.i8.wrap (b : Int) = (b : Int) - 256 := by
   simp [IntKind.wrap, IntKind.bits, IntKind.signed]
   omega
  rw [e8, IntKind.wrap_u16, IntKind.wrap_u16]
  omega
 ·have e : (v + b) % 65536 = r := by
   have h2 := hr.out
   unfold wMove at h2
   rw [show Nat.ble 128 b = false from Zkk (by omega)] at h2
   exact h2
  go_enter Tryz.func127, Tryz.ntmps127
  go_wp2
  go_ret
  refine ⟨yh ?_, rfl⟩
  rw [IntKind.wrap_u16]
  omega
theorem ZbC {a b c : Int} {v m f : Nat} (h : a = (v : Int)) (h' : b = (m : Int)) (h'' : c = (f : Int)) : (Ending.returned (.tuple #[.int .u8 a, .int .u8 b, .int .u8 c]) : Ending) = .returned (.tuple #[.int .u8 (v : Int), .int .u8 (m : Int), .int .u8 (f : Int)]) := by rw [h, h', h'']
theorem zR (f c : Nat) (hf : f < 256) (hc : f % 2 = c) : bits .and .u8 (f : Int) 1 = (c : Int) := by
 rw [u8_and f 1 (by omega) (by omega) (by omega) (by omega), ← hc, ← Nat.and_one_is_mod]; rfl
theorem yj (v i r o : Nat) (hv : v < 256) (hi : i ≤ 1) (hr : Hid (tUp v i = r)) (ho : Hid (v / 128 = o)) (w : World) :
  CW 225 #[.int .u8 (v : Int), .int .u8 (i : Int)] w (.tuple #[.int .u8 (r : Int), .int .u8 (o : Int)]) := by
 go_enter Tryz.func225, Tryz.ntmps225
 go_wp2
 go_ret2
 refine ⟨ZR ?_ ?_, rfl⟩
 ·rw [← hr.out, ← Zg6 v i hv hi, show ((v : Int) * 2 % 256) = ((v * 2 % 256 : Nat) : Int) by omega, u8_or_nat _ _ (by omega) (by omega)]
 ·have := ho.out; omega
theorem K8 (v i r o : Nat) (hv : v < 256) (hi : i ≤ 1) (hr : Hid (tDn v i = r)) (ho : Hid (v % 2 = o)) (w : World) :
  CW 226 #[.int .u8 (v : Int), .int .u8 (i : Int)] w (.tuple #[.int .u8 (r : Int), .int .u8 (o : Int)]) := by
 go_enter Tryz.func226, Tryz.ntmps226
 go_wp2
 go_ret2
 refine ⟨ZR ?_ (zR v o hv ho.out), rfl⟩
 rw [← hr.out, ← Zg7 v i hv hi, show ((i : Int) * 128) = ((i * 128 : Nat) : Int) by omega, show ((v : Int) / 2) = ((v / 2 : Nat) : Int) by omega, u8_or_nat _ _ (by omega) (by omega)]
theorem Zhp (v r o : Nat) (hv : v < 256) (hr : Hid (tUp v 0 = r)) (ho : Hid (v / 128 = o)) (w : World) :
  Calls Tryz.prog 225 #[.int .u8 (v : Int), .int .u8 0] w fun e w' => e = .returned (.tuple #[.int .u8 (r : Int), .int .u8 (o : Int)]) ∧ w = w' := yj v 0 r o hv (by omega) hr ho w
theorem Zkt (v r o : Nat) (hv : v < 256) (hr : Hid (tUp v 1 = r)) (ho : Hid (v / 128 = o)) (w : World) :
  Calls Tryz.prog 225 #[.int .u8 (v : Int), .int .u8 1] w fun e w' => e = .returned (.tuple #[.int .u8 (r : Int), .int .u8 (o : Int)]) ∧ w = w' := yj v 1 r o hv (by omega) hr ho w
theorem ZbD (v r o : Nat) (hv : v < 256) (hr : Hid (tDn v 0 = r)) (ho : Hid (v % 2 = o)) (w : World) :
  Calls Tryz.prog 226 #[.int .u8 (v : Int), .int .u8 0] w fun e w' => e = .returned (.tuple #[.int .u8 (r : Int), .int .u8 (o : Int)]) ∧ w = w' := K8 v 0 r o hv (by omega) hr ho w
theorem Zhq (k v c r o : Nat) (hk : k < 8) (hv : v < 256) (hc : c ≤ 1) (hr : Hid (tV k v c = r)) (ho : Hid (tO k v = o)) (w : World) :
  CW 195 #[.int .i64 (k : Int), .int .u8 (v : Int), .int .u8 (c : Int)] w (.tuple #[.int .u8 (r : Int), .int .u8 (o : Int)]) := by
 obtain ⟨t, ht⟩ : ∃ t, v / 128 = t := ⟨_, rfl⟩
 obtain ⟨b, hb⟩ : ∃ b, v % 2 = b := ⟨_, rfl⟩
 have e1 : (v : Int) / 128 = (t : Int) := by omega
 have e2 := zR v b hv hb
 have t1 : t ≤ 1 := by omega
 have b1 : b ≤ 1 := by omega
 have HT := Zb ht
 have HB := Zb hb
 have hc8 : k = 0 ∨ k = 1 ∨ k = 2 ∨ k = 3 ∨ k = 4 ∨ k = 5 ∨ k = 6 ∨ k = 7 := by omega
 clear hk ht hb
 rcases hc8 with rfl | rfl | rfl | rfl | rfl | rfl | rfl | rfl
 ·have h1 : Hid (tUp v t = r) := by show _ = _; rw [← HT.out]; exact hr.out
  have h2 : Hid (v / 128 = o) := ho
  clear hr ho
  go_enter Tryz.func195, Tryz.ntmps195
  go_wp2_with (go_at_call 225; (with_reducible refine (yj v t r o hv t1 h1 h2 _).mono ?_); rintro e w' ⟨rfl, rfl⟩)
  go_ret2
  exact ⟨rfl, rfl⟩
 ·have h1 : Hid (tDn v b = r) := by show _ = _; rw [← HB.out]; exact hr.out
  have h2 : Hid (v % 2 = o) := ho
  clear hr ho
  go_enter Tryz.func195, Tryz.ntmps195
  go_wp2_with (go_at_call 226; (with_reducible refine (K8 v b r o hv b1 h1 h2 _).mono ?_); rintro e w' ⟨rfl, rfl⟩)
  go_ret2
  exact ⟨rfl, rfl⟩
 ·have h1 : Hid (tUp v c = r) := hr
  have h2 : Hid (v / 128 = o) := ho
  clear hr ho
  go_enter Tryz.func195, Tryz.ntmps195
  go_wp2_with (go_at_call 225; (with_reducible refine (yj v c r o hv hc h1 h2 _).mono ?_); rintro e w' ⟨rfl, rfl⟩)
  go_ret2
  exact ⟨rfl, rfl⟩
 ·have h1 : Hid (tDn v c = r) := hr
  have h2 : Hid (v % 2 = o) := ho
  clear hr ho
  go_enter Tryz.func195, Tryz.ntmps195
  go_wp2_with (go_at_call 226; (with_reducible refine (K8 v c r o hv hc h1 h2 _).mono ?_); rintro e w' ⟨rfl, rfl⟩)
  go_ret2
  exact ⟨rfl, rfl⟩
 ·have h1 : Hid (tUp v 0 = r) := hr
  have h2 : Hid (v / 128 = o) := ho
  clear hr ho
  go_enter Tryz.func195, Tryz.ntmps195
  go_wp2_with (go_at_call 225; (with_reducible refine (Zhp v r o hv h1 h2 _).mono ?_); rintro e w' ⟨rfl, rfl⟩)
  go_ret2
  exact ⟨rfl, rfl⟩
 ·have h1 : Hid (tDn v t = r) := by show _ = _; rw [← HT.out]; exact hr.out
  have h2 : Hid (v % 2 = o) := ho
  clear hr ho
  go_enter Tryz.func195, Tryz.ntmps195
  go_wp2_with (go_at_call 226; (with_reducible refine (K8 v t r o hv t1 h1 h2 _).mono ?_); rintro e w' ⟨rfl, rfl⟩)
  go_ret2
  exact ⟨rfl, rfl⟩
 ·have h1 : Hid (tUp v 1 = r) := hr
  have h2 : Hid (v / 128 = o) := ho
  clear hr ho
  go_enter Tryz.func195, Tryz.ntmps195
  go_wp2_with (go_at_call 225; (with_reducible refine (Zkt v r o hv h1 h2 _).mono ?_); rintro e w' ⟨rfl, rfl⟩)
  go_ret2
  exact ⟨rfl, rfl⟩
 ·have h1 : Hid (tDn v 0 = r) := hr
  have h2 : Hid (v % 2 = o) := ho
  clear hr ho
  go_enter Tryz.func195, Tryz.ntmps195
  go_wp2_with (go_at_call 226; (with_reducible refine (ZbD v r o hv h1 h2 _).mono ?_); rintro e w' ⟨rfl, rfl⟩)
  go_ret2
  exact ⟨rfl, rfl⟩
theorem ZbE (n : Int) (k m : Nat) (hk : n % 8 = (k : Int)) (hm : Hid (2 ^ k = m)) (w : World) :
  CW 133 #[.int .i64 n] w (.int .u8 (m : Int)) := by
 have h7 := K6 n
 rw [hk] at h7
 have hc : k = 0 ∨ k = 1 ∨ k = 2 ∨ k = 3 ∨ k = 4 ∨ k = 5 ∨ k = 6 ∨ k = 7 := by omega
 clear hk
 rcases hc with rfl | rfl | rfl | rfl | rfl | rfl | rfl | rfl
 all_goals
  obtain rfl : m = _ := hm.out.symm
  go_enter Tryz.func133, Tryz.ntmps133
  go_wp2
  go_ret
  exact ⟨rfl, rfl⟩
theorem ZbF (on : Bool) (n : Nat) (w : World) : CW 134 #[.bool on, .int .u8 (n : Int)] w (.int .u8 ((cond on n 0 : Nat) : Int)) := by
 cases on
 all_goals
  go_enter Tryz.func134, Tryz.ntmps134
  go_wp2
  go_ret
  exact ⟨rfl, rfl⟩
theorem UB (on : Bool) (n : Nat) (b : Bool) (r : Nat) (hb : on = b) (hr : Hid (cond b n 0 = r)) (w : World) : CW 134 #[.bool on, .int .u8 (n : Int)] w (.int .u8 (r : Int)) := by
 rw [hb, ← hr.out]; exact ZbF b n w
theorem Wm (v r : Nat) (h : v < 256) (hr : Hid (nBitsF v false = r)) (w : World) : CW 196 #[.int .u8 (v : Int)] w (.int .u8 (r : Int)) := by
 have HS := Zb (Wc v h)
 rw [hr.out] at HS
 obtain ⟨s, hs⟩ : ∃ s, nShape v = s := ⟨_, rfl⟩
 have s1 : s < 256 := hs ▸ Zm _ _ _ _ _ _ _ _
 have HT := Zb hs
 obtain ⟨b, hb⟩ : ∃ b, Jt v = b := ⟨_, rfl⟩
 have HB := Zb hb
 obtain ⟨r', hr'⟩ : ∃ r, cond b 4 0 = r := ⟨_, rfl⟩
 have HR := Zb hr'
 have r1 : r' < 256 := by rw [← hr']; cases b <;> decide
 rw [hs, hb, hr'] at HS
 clear hr' hb hs hr
 go_enter Tryz.func196, Tryz.ntmps196
 go_wp2_with (first | (go_at_call 213; refine (J0 v s h HT _).mono ?_; rintro e w' ⟨rfl, rfl⟩) | (go_at_call 178; refine (Kw v h _).mono ?_; rintro e w' ⟨rfl, rfl⟩; rw [HB.out]) | (go_at_call 134; refine (UB _ 4 b r' rfl HR _).mono ?_; rintro e w' ⟨rfl, rfl⟩))
 exact k62
theorem Zgt (op : Int) (k v f c r g : Nat) (hk : op % 8 = (k : Int)) (hv : v < 256) (hf : f < 256) (hc : Hid (f % 2 = c)) (hr : Hid (tV k v c = r)) (hg : Hid (Yl k v c = g)) (w : World) :
  CW 136 #[.int .i64 op, .int .u8 (v : Int), .int .u8 (f : Int)] w (.tuple #[.int .u8 (r : Int), .int .u8 (g : Int)]) := by
 have h7 := K6 op
 rw [hk] at h7
 have k1 : k < 8 := by omega
 clear hk
 have e1 := zR f c hf hc.out
 have c1 : c ≤ 1 := by have := hc.out; omega
 have r1 : r < 256 := by rw [← hr.out]; exact JL k v c hv c1
 obtain ⟨o, ho⟩ : ∃ o, Hid (tO k v = o) := ⟨_, rfl⟩
 have o1 : o ≤ 1 := by rw [← ho.out]; exact Zg5 k v hv
 obtain ⟨s, hs⟩ : ∃ s, Hid (nBitsF r false = s) := ⟨_, rfl⟩
 have s1 : s < 256 := by rw [← hs.out]; exact YV _ _
 have HG : Hid (s ||| o = g) := by
  show _ = _
  rw [Vn r o s o1 hs.out, ← hg.out]
  unfold Yl
  rw [hr.out, ho.out]
 clear hg
 go_enter Tryz.func136, Tryz.ntmps136
 go_wp2_with (first | (go_at_call 195; (with_reducible refine (Zhq k v c r o k1 hv c1 hr ho _).mono ?_); rintro e w' ⟨rfl, rfl⟩) | (go_at_call 196; (with_reducible refine (Wm r s r1 hs _).mono ?_); rintro e w' ⟨rfl, rfl⟩))
 go_ret2
 refine ⟨ZR rfl ?_, rfl⟩
 rw [← HG.out]
 exact u8_or_nat s o s1 (by omega)
theorem Zew (x : Int) : bits .and .i64 x 3 = x % 4 := by
 have e : (BitVec.ofInt 64 x &&& BitVec.ofInt 64 3).toNat = (x % 4).toNat := by
  rw [BitVec.toNat_and, BitVec.toNat_ofInt, BitVec.toNat_ofInt]
  rw [show ((3 : Int) % ((2 ^ 64 : Nat) : Int)).toNat = 2 ^ 2 - 1 by decide, Nat.and_two_pow_sub_one_eq_mod]
  omega
 show IntKind.i64.wrap ((BitVec.ofInt 64 x &&& BitVec.ofInt 64 3).toNat : Int) = _
 rw [e]
 rw [IntWalk.i64_in _ (by omega)]
 omega
theorem Zex (op : Int) (k v f c r g : Nat) (hk : op % 4 = (k : Int)) (hv : v < 256) (hf : f < 256) (hc : Hid (f % 2 = c)) (hr : Hid (tV k v c = r)) (hg : Hid (Yj k v c f = g)) (w : World) :
  CW 201 #[.int .i64 op, .int .u8 (v : Int), .int .u8 (f : Int)] w (.tuple #[.int .u8 (r : Int), .int .u8 (g : Int)]) := by
 have h3 := Zew op
 rw [hk] at h3
 have k1 : (k : Int) % 8 = (k : Int) := by omega
 clear hk
 have c1 : c ≤ 1 := by have := hc.out; omega
 have r1 : r < 256 := by rw [← hr.out]; exact JL k v c hv c1
 obtain ⟨t, ht⟩ : ∃ t, Hid (Yl k v c = t) := ⟨_, rfl⟩
 have t1 : t < 256 := by rw [← ht.out]; exact Uw _ _ _
 have HG : Hid (((f &&& 196) ||| (r &&& 40)) ||| (t &&& 1) = g) := by
  show _ = _
  rw [Zg8 k v c t hv ht.out]
  exact vO k v c f r _ g hv hf c1 hr.out rfl hg.out
 have HK := Zb k1
 clear hg k1
 go_enter Tryz.func201, Tryz.ntmps201
 go_wp2_with (go_at_call 136; (with_reducible refine (Zgt (k : Int) k v f c r t HK.out hv hf hc hr ht _).mono ?_); rintro e w' ⟨rfl, rfl⟩)
 go_ret2
 refine ⟨ZR rfl ?_, rfl⟩
 rw [← HG.out]
 simp (disch := exact bS) only [u8_and, Int.reduceToNat, Int.toNat_natCast]
 simp (disch := exact bS) only [u8_or, Int.toNat_natCast]
theorem ZbG (k m : Nat) (hk : k < 8) (hm : 2 ^ k = m) : m < 256 := by
 have hc : k = 0 ∨ k = 1 ∨ k = 2 ∨ k = 3 ∨ k = 4 ∨ k = 5 ∨ k = 6 ∨ k = 7 := by omega
 rcases hc with rfl | rfl | rfl | rfl | rfl | rfl | rfl | rfl <;> omega
theorem ZbH (n : Int) (k v f b g : Nat) (hk : n % 8 = (k : Int)) (hv : v < 256) (hf : f < 256) (hb : b < 256) (hg : Hid (Jj k v f b = g)) (w : World) :
  CW 69 #[.int .i64 n, .int .u8 (v : Int), .int .u8 (f : Int), .int .u8 (b : Int)] w (.int .u8 (g : Int)) := by
 have k1 : k < 8 := by omega
 obtain ⟨m, hm⟩ : ∃ m : Nat, Hid (2 ^ k = m) := ⟨_, rfl⟩
 have m1 := ZbG k m k1 hm.out
 obtain ⟨x, hx⟩ : ∃ x, v &&& m = x := ⟨_, rfl⟩
 have x1 : x < 256 := hx ▸ vC hv
 have e1 : bits .and .u8 (v : Int) (m : Int) = (x : Int) := by rw [u8_and_nat v m hv m1, hx]
 obtain ⟨z, hz⟩ : ∃ z : Nat, Hid (cond (Nat.beq x 0) 68 0 = z) := ⟨_, rfl⟩
 have z1 : z < 256 := by rw [← hz.out]; cases Nat.beq x 0 <;> decide
 have HG : Hid (((((x &&& 128) ||| z) ||| 16) ||| (f &&& 1)) ||| (b &&& 40) = g) :=
  Zei k v f b x g z k1 hv hf hb (by rw [hm.out, hx]) hz.out hg.out
 have HK := Zb hk
 clear hg hk hx
 go_enter Tryz.func69, Tryz.ntmps69
 go_wp2_with (first | (go_at_call 133; (with_reducible refine (ZbE n k m HK.out hm _).mono ?_); rintro e w' ⟨rfl, rfl⟩) | (go_at_call 134; refine (UB _ 68 (Nat.beq x 0) z (by rw [Bool.eq_iff_iff, beq_iff_eq, Nat.beq_eq]; omega) hz _).mono ?_; rintro e w' ⟨rfl, rfl⟩))
 go_ret
 refine ⟨YN ?_, rfl⟩
 rw [← HG.out]
 simp (disch := exact bS) only [u8_and, u8_or, Int.reduceToNat, Int.toNat_natCast]
 try rfl
theorem Zku (n : Int) (k v r : Nat) (on : Bool) (hk : n % 8 = (k : Int)) (hv : v < 256) (hr : Hid (KU k v on = r)) (w : World) :
  CW 137 #[.int .i64 n, .int .u8 (v : Int), .bool on] w (.int .u8 (r : Int)) := by
 have k1 : k < 8 := by omega
 obtain ⟨m, hm⟩ : ∃ m : Nat, Hid (2 ^ k = m) := ⟨_, rfl⟩
 have m1 := ZbG k m k1 hm.out
 obtain ⟨z, hz⟩ : ∃ z : Nat, Hid (cond on m 0 = z) := ⟨_, rfl⟩
 have z1 : z < 256 := by rw [← hz.out]; cases on <;> simp <;> omega
 have HR : Hid ((v &&& (255 - m)) ||| z = r) := by
  show _ = _
  rw [← hz.out, Zej k v on m k1 hv hm.out, hr.out]
 have HK := Zb hk
 clear hr hk
 go_enter Tryz.func137, Tryz.ntmps137
 go_wp2_with (first | (go_at_call 133; (with_reducible refine (ZbE n k m HK.out hm _).mono ?_); rintro e w' ⟨rfl, rfl⟩) | (go_at_call 134; (with_reducible refine (UB on m on z rfl hz _).mono ?_); rintro e w' ⟨rfl, rfl⟩))
 go_ret
 refine ⟨YN ?_, rfl⟩
 rw [← HR.out]
 simp (disch := exact bS) only [u8_andNot, Int.toNat_natCast]
 exact u8_or_nat _ z (vC hv) z1
end
end Go.Proofs.YtgdeeiimkhjfiaaGreatDoor
