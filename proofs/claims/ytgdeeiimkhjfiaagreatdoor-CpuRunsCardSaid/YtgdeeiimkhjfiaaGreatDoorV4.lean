import Derived.Test.YtgdeeiimkhjfiaaGreatDoorV3
import Derived.OwnWalk
set_option maxRecDepth 100000
set_option maxHeartbeats 6400000
namespace Go.Proofs.YtgdeeiimkhjfiaaGreatDoor
open Go.RowKit
section
variable {W0 w : World} {x b tq n c : Nat} {s : Cs} {ix : Bool} {pg : Int} {l : Zj}
theorem Zey (r f s g : Nat) (hf : f < 256) (hs : nBitsF r false = s) (hg : We r (Zf 1 f) = g) : s ||| (f &&& 1) = g := by
 rw [zO f hf, ← hg]
 cases h : Zf 1 f
 ·exact Vn r 0 s (by omega) hs
 ·exact Vn r 1 s (by omega) hs
theorem k38 {P : Prop} (h : P := by
 go_enter Tryz.func219, Tryz.ntmps219
 go_wp2_with (go_at_call 196; (with_reducible refine (Wm r s r1 hs _).mono ?_); rintro e w' ⟨rfl, rfl⟩)
 go_ret3
 refine ⟨ZbC rfl rfl ?_, rfl⟩
 rw [← HG.out]
 simp (disch := exact bS) only [u8_and, u8_or, Int.reduceToNat, Int.toNat_natCast]) : P := h
theorem Wn (left : Bool) (a m f r q g : Nat) (ha : a < 256) (hm : m < 256) (hf : f < 256) (hr : Hid (Uv left a m = r)) (hq : Hid (Wf left a m = q)) (hg : Hid (Wg left a m f = g)) (w : World) :
  CW 219 #[.bool left, .int .u8 (a : Int), .int .u8 (m : Int), .int .u8 (f : Int)] w (.tuple #[.int .u8 (r : Int), .int .u8 (q : Int), .int .u8 (g : Int)]) := by
 have r1 : r < 256 := by rw [← hr.out]; exact Jv left a m ha hm
 obtain ⟨s, hs⟩ : ∃ s, Hid (nBitsF r false = s) := ⟨_, rfl⟩
 have s1 : s < 256 := by rw [← hs.out]; exact YV _ _
 have HG : Hid (s ||| (f &&& 1) = g) := by
  show _ = _
  refine Zey r f s g hf hs.out ?_
  rw [← hg.out, ← hr.out]; rfl
 obtain ⟨u, hu⟩ : ∃ u, a / 16 * 16 = u := ⟨_, rfl⟩
 obtain ⟨p, hp⟩ : ∃ p, a % 16 = p := ⟨_, rfl⟩
 obtain ⟨l, hl⟩ : ∃ l, m % 16 = l := ⟨_, rfl⟩
 obtain ⟨h, hh⟩ : ∃ h, m / 16 = h := ⟨_, rfl⟩
 have e1 : bits .andNot .u8 (a : Int) 15 = (u : Int) := by
  rw [u8_andNot _ _ (by omega) (by omega) (by omega) (by omega), ← hu, ← vQ a ha]; rfl
 have e2 : bits .and .u8 (m : Int) 15 = (l : Int) := by
  rw [u8_and _ _ (by omega) (by omega) (by omega) (by omega), ← hl, ← yb m hm]; rfl
 have e3 : bits .and .u8 (a : Int) 15 = (p : Int) := by
  rw [u8_and _ _ (by omega) (by omega) (by omega) (by omega), ← hp, ← yb a ha]; rfl
 have e4 : (m : Int) / 16 = (h : Int) := by omega
 have e5 : (a : Int) * 16 % 256 = ((p * 16 : Nat) : Int) := by omega
 have e6 : (l : Int) * 16 = ((l * 16 : Nat) : Int) := by omega
 have x1 : u ||| h = u + h := by
  have := Jw (a / 16) h (by omega) (by omega)
  rw [hu] at this; exact this
 have x2 : u ||| l = u + l := by
  have := Jw (a / 16) l (by omega) (by omega)
  rw [hu] at this; exact this
 have e7 : bits .or .u8 (u : Int) (h : Int) = ((u + h : Nat) : Int) := by rw [u8_or_nat u h (by omega) (by omega), x1]
 have e8 : bits .or .u8 (u : Int) (l : Int) = ((u + l : Nat) : Int) := by rw [u8_or_nat u l (by omega) (by omega), x2]
 have e9 : bits .or .u8 ((l : Int) * 16) (p : Int) = ((l * 16 + p : Nat) : Int) := by rw [e6, u8_or_nat _ p (by omega) (by omega), Jw l p (by omega) (by omega)]
 have e10 : bits .or .u8 ((a : Int) * 16 % 256) (h : Int) = ((p * 16 + h : Nat) : Int) := by rw [e5, u8_or_nat _ h (by omega) (by omega), Jw p h (by omega) (by omega)]
 have l1 : (l : Int) < 16 := by omega
 cases left
 ·have hr2 : ((u + l : Nat) : Int) = (r : Int) := by rw [← hr.out, ← hu, ← hl]; rfl
  have hq2 : ((p * 16 + h : Nat) : Int) = (q : Int) := by rw [← hq.out, ← hp, ← hh]; rfl
  rw [hr2] at e8
  rw [hq2] at e10
  clear hr hq hg e5 e6 e7 e9 x1 x2 hu hp hl hh hr2 hq2
  exact k38
 ·have hr2 : ((u + h : Nat) : Int) = (r : Int) := by rw [← hr.out, ← hu, ← hh]; rfl
  have hq2 : ((l * 16 + p : Nat) : Int) = (q : Int) := by rw [← hq.out, ← hp, ← hl]; rfl
  rw [hr2] at e7
  rw [hq2] at e9
  clear hr hq hg e5 e6 e8 e10 x1 x2 hu hp hl hh hr2 hq2
  exact k38
theorem ZbI (on : Bool) (n : Nat) (w : World) : CW 228 #[.bool on, .int .u8 (n : Int)] w (.int .u8 ((cond on n 0 : Nat) : Int)) := by
 cases on
 all_goals
  go_enter Tryz.func228, Tryz.ntmps228
  go_wp2
  go_ret
  exact ⟨rfl, rfl⟩
theorem K9 (on : Bool) (n : Nat) (b : Bool) (r : Nat) (hb : on = b) (hr : Hid (cond b n 0 = r)) (w : World) : CW 228 #[.bool on, .int .u8 (n : Int)] w (.int .u8 (r : Int)) := by
 rw [hb, ← hr.out]; exact ZbI b n w
theorem Zhr (on : Bool) (b : Bool) (r : Nat) (hb : on = b) (hr : Hid (cond b 4 0 = r)) (w : World) : Calls Tryz.prog 228 #[.bool on, .int .u8 4] w fun e w' => e = .returned (.int .u8 (r : Int)) ∧ w = w' := K9 on 4 b r hb hr w
theorem Zez (on : Bool) (b : Bool) (r : Nat) (hb : on = b) (hr : Hid (cond b 17 0 = r)) (w : World) : Calls Tryz.prog 228 #[.bool on, .int .u8 17] w fun e w' => e = .returned (.int .u8 (r : Int)) ∧ w = w' := K9 on 17 b r hb hr w
theorem yk (n r : Nat) (hn : n < 256) (hr : Hid (rYX n = r)) (w : World) : CW 229 #[.int .u8 (n : Int)] w (.int .u8 (r : Int)) := by
 obtain ⟨x, hx⟩ : ∃ x, n &&& 2 = x := ⟨_, rfl⟩
 have x2 : x ≤ 2 := by rw [← hx]; exact Nat.and_le_right
 have e1 : bits .and .u8 (n : Int) 2 = (x : Int) := by rw [u8_and n 2 (by omega) (by omega) (by omega) (by omega), Int.toNat_natCast, ← hx]; rfl
 have HR : Hid ((x * 16) ||| (n &&& 8) = r) := by show _ = _; rw [← hx, Zem n hn]; exact hr.out
 clear hr hx
 go_enter Tryz.func229, Tryz.ntmps229
 go_wp2
 go_ret
 refine ⟨YN ?_, rfl⟩
 rw [← HR.out, show ((x : Int) * 16) = ((x * 16 : Nat) : Int) by omega]
 simp (disch := exact bS) only [u8_and, u8_or, Int.reduceToNat, Int.toNat_natCast]
theorem Zhs (a v f left r : Nat) (p : Bool) (hf : f < 256) (hp : Hid ((p = true) ↔ left ≠ 0)) (hr : Hid (Wh a v f p = r)) (w : World) :
  CW 222 #[.int .u8 (a : Int), .int .u8 (v : Int), .int .u8 (f : Int), .int .u16 (left : Int)] w (.int .u8 (r : Int)) := by
 obtain ⟨n, hn⟩ : ∃ n, Zkl a v = n := ⟨_, rfl⟩
 have n1 : n < 256 := hn ▸ Zbr _ _
 have e1 : ((a : Int) + (v : Int)) % 256 = (n : Int) := by have h : (a + v) % 256 = n := hn; omega
 obtain ⟨k, hk⟩ : ∃ k : Nat, Hid (cond p 4 0 = k) := ⟨_, rfl⟩
 have k1 : k < 256 := by rw [← hk.out]; cases p <;> decide
 obtain ⟨t, ht⟩ : ∃ t, Hid (rYX n = t) := ⟨_, rfl⟩
 have t1 : t < 256 := by rw [← ht.out]; exact Zgp _
 have HR : Hid (((f &&& 193) ||| k) ||| t = r) := by
  show _ = _
  rw [← hk.out, ← ht.out, Zhb f n p hf, ← hr.out]; unfold Wh; rw [hn]
 clear hr hn
 go_enter Tryz.func222, Tryz.ntmps222
 go_wp2_with (first | (go_at_call 228; refine (K9 _ 4 p k (by rw [Bool.eq_iff_iff, hp.out]; simp) hk _).mono ?_; rintro e w' ⟨rfl, rfl⟩) | (go_at_call 229; (with_reducible refine (yk n t n1 ht _).mono ?_); rintro e w' ⟨rfl, rfl⟩))
 go_ret
 refine ⟨YN ?_, rfl⟩
 rw [← HR.out]
 simp (disch := exact bS) only [u8_and, u8_or, Int.reduceToNat, Int.toNat_natCast]
theorem Zht (a v f left r : Nat) (p o : Bool) (ha : a < 256) (hv : v < 256) (hf : f < 256) (hp : Hid ((p = true) ↔ left ≠ 0)) (hr : Hid (KK a v f p = r)) (ho : Hid (JM a v p = o)) (w : World) :
  CW 223 #[.int .u8 (a : Int), .int .u8 (v : Int), .int .u8 (f : Int), .int .u16 (left : Int)] w (.tuple #[.int .u8 (r : Int), .bool o]) := by
 obtain ⟨m, hm⟩ : ∃ m, Hid (ZY a v 0 = m) := ⟨_, rfl⟩
 obtain ⟨g, hg⟩ : ∃ g, Hid (ZU a v 0 = g) := ⟨_, rfl⟩
 have m1 : m < 256 := by rw [← hm.out]; exact Yn _ _ _
 have g1 : g < 256 := by rw [← hg.out]; exact YM _ _ _
 have r1 : r < 256 := by rw [← hr.out]; exact Wj _ _ _ _
 have gN : Zf 2 g = true := by rw [← hg.out]; exact sub_n _ _ _
 obtain ⟨n, hn⟩ : ∃ n, rLess m (Zf 16 g) = n := ⟨_, rfl⟩
 have n1 : n < 256 := hn ▸ ye _ _ m1
 have e1 := Zhg m (Zf 16 g) m1
 rw [hn, ← Zhe g g1] at e1
 have HF : Hid (rSeek g n f p = r) := by show _ = _; rw [← hr.out]; unfold KK; rw [hm.out, hg.out, hn]
 have HO : Hid (rOn g p = o) := by show _ = _; rw [← hg.out, Zkm a v p ha hv]; exact ho.out
 obtain ⟨s, hs⟩ : ∃ s, g &&& 210 = s := ⟨_, rfl⟩
 have s1 : s < 256 := by rw [← hs]; exact vC g1
 obtain ⟨k, hk⟩ : ∃ k : Nat, Hid (cond p 4 0 = k) := ⟨_, rfl⟩
 have k1 : k < 256 := by rw [← hk.out]; cases p <;> decide
 obtain ⟨t, ht⟩ : ∃ t, Hid (rYX n = t) := ⟨_, rfl⟩
 have t1 : t < 256 := by rw [← ht.out]; exact Zgp _
 have HR : Hid (((s ||| (f &&& 1)) ||| k) ||| t = r) := by
  show _ = _
  rw [← hk.out, ← ht.out, ← hs, Zhd g n f p g1 hf gN, HF.out]
 rw [hs] at e1
 obtain ⟨j, hj⟩ : ∃ j, s &&& 16 = j := ⟨_, rfl⟩
 have j1 : j < 256 := by rw [← hj]; exact vC s1
 rw [hj] at e1
 have e2 : bits .and .u8 (s : Int) 16 = (j : Int) := by rw [u8_and s 16 (by omega) (by omega) (by omega) (by omega), Int.toNat_natCast, ← hj]; rfl
 have e3 : bits .and .u8 (g : Int) 210 = (s : Int) := by rw [u8_and g 210 (by omega) (by omega) (by omega) (by omega), Int.toNat_natCast, ← hs]; rfl
 have e4 : bits .or .u8 (bits .or .u8 (bits .or .u8 (s : Int) (bits .and .u8 (f : Int) 1)) (k : Int)) (t : Int) = (r : Int) := by
  rw [← HR.out]
  simp (disch := exact bS) only [u8_and, u8_or, Int.reduceToNat, Int.toNat_natCast]
 have e5 : bits .and .u8 (r : Int) 68 = ((r &&& 68 : Nat) : Int) := by rw [u8_and r 68 (by omega) (by omega) (by omega) (by omega), Int.toNat_natCast]; rfl
 have e6 : (((r &&& 68 : Nat) : Int) == 4) = o := by rw [← HO.out, Bool.eq_iff_iff, beq_iff_eq, ← HF.out]; exact on_is g n f p
 obtain ⟨q, hq⟩ : ∃ q, r &&& 68 = q := ⟨_, rfl⟩
 rw [hq] at e5 e6
 have e7 : ((m : Int) - (j : Int) / 16) % 256 = (n : Int) := e1
 clear hr ho hn gN HR hs hj e1 hq
 go_enter Tryz.func223, Tryz.ntmps223
 go_wp2_with (first | (go_at_call 123; refine (V2 a v false m g ha hv hm hg _).mono ?_; rintro e w' ⟨rfl, rfl⟩) | (go_at_call 228; refine (K9 _ 4 p k (by rw [Bool.eq_iff_iff, hp.out]; simp) hk _).mono ?_; rintro e w' ⟨rfl, rfl⟩) | (go_at_call 229; (with_reducible refine (yk n t n1 ht _).mono ?_); rintro e w' ⟨rfl, rfl⟩))
 go_ret2
 exact ⟨rfl, rfl⟩
theorem ZbJ (v m b r : Nat) (hv : v < 256) (hm : m < 256) (hb : b < 256) (hr : Hid (Ku v m b = r)) (w : World) :
  CW 224 #[.int .u8 (v : Int), .int .u8 (m : Int), .int .u8 (b : Int)] w (.int .u8 (r : Int)) := by
 obtain ⟨t, ht⟩ : ∃ t, v + m = t := ⟨_, rfl⟩
 have t1 : t < 511 := by omega
 have e1 : (v : Int) + (m : Int) = (t : Int) := by omega
 obtain ⟨k, hk⟩ : ∃ k, Nat.ble 256 (Nat.add v m) = k := ⟨_, rfl⟩
 have e2 : decide ((255 : Int) < (t : Int)) = k := by rw [Bool.eq_iff_iff, decide_eq_true_eq, ← hk, Nat.ble_eq]; show _ ↔ 256 ≤ v + m; omega
 obtain ⟨j, hj⟩ : ∃ j, t % 8 = j := ⟨_, rfl⟩
 have j1 : j < 8 := by omega
 have e3 : bits .and .i64 (t : Int) 7 = (j : Int) := by rw [K6]; omega
 obtain ⟨x, hx⟩ : ∃ x, b ^^^ j = x := ⟨_, rfl⟩
 have x1 : x < 256 := hx ▸ ZgZ hb (by omega)
 have e4 : bits .xor .u8 (b : Int) (j : Int) = (x : Int) := by rw [u8_xor_nat b j hb (by omega), hx]
 obtain ⟨o, ho⟩ : ∃ o, Hid (Jt x = o) := ⟨_, rfl⟩
 obtain ⟨s, hs⟩ : ∃ s, Hid (nShape b = s) := ⟨_, rfl⟩
 have s1 : s < 256 := by rw [← hs.out]; exact Zm _ _ _ _ _ _ _ _
 obtain ⟨c, hc⟩ : ∃ c : Nat, Hid (cond k 17 0 = c) := ⟨_, rfl⟩
 have c1 : c < 256 := by rw [← hc.out]; cases k <;> decide
 obtain ⟨d, hd⟩ : ∃ d : Nat, Hid (cond o 4 0 = d) := ⟨_, rfl⟩
 have d1 : d < 256 := by rw [← hd.out]; cases o <;> decide
 obtain ⟨y, hy⟩ : ∃ y, v &&& 128 = y := ⟨_, rfl⟩
 have y1 : y < 256 := hy ▸ vC hv
 have e5 : bits .and .u8 (v : Int) 128 = (y : Int) := by rw [u8_and v 128 (by omega) (by omega) (by omega) (by omega), Int.toNat_natCast, ← hy]; rfl
 have HR : Hid ((((s ||| (y / 64)) ||| c) ||| d) = r) := by
  show _ = _
  rw [← hs.out, ← hc.out, ← hd.out, ← hy, Zhf v m b hv k o hk (by show Jt (b ^^^ (v + m) % 8) = o; rw [ht, hj, hx]; exact ho.out)]; exact hr.out
 clear hr hk ht hj hx hy
 go_enter Tryz.func224, Tryz.ntmps224
 go_wp2_with (first | (go_at_call 178; (with_reducible refine (Wl x o x1 ho _).mono ?_); rintro e w' ⟨rfl, rfl⟩) | (go_at_call 213; (with_reducible refine (J0 b s hb hs _).mono ?_); rintro e w' ⟨rfl, rfl⟩) | (go_at_call 228; first
   | ((with_reducible refine (Zhr o o d rfl hd _).mono ?_); rintro e w' ⟨rfl, rfl⟩)
   | ((with_reducible refine (Zez k k c rfl hc _).mono ?_); rintro e w' ⟨rfl, rfl⟩)))
 go_ret
 refine ⟨YN ?_, rfl⟩
 rw [← HR.out, show ((y : Int) / 64) = ((y / 64 : Nat) : Int) by omega]
 simp (disch := exact bS) only [u8_or, Int.toNat_natCast]
theorem k27 {P : Prop} (h : P := by
 go_enter Tryz.func190, Tryz.ntmps190
 go_wp2
 go_ret
 exact ⟨rfl, rfl⟩) : P := h
theorem Zgu (g : Nat) (w : World) : CW 190 #[.pointer (some ⟨g, 0, none⟩), .int .i64 3] w (.pointer (some ⟨g, 18, none⟩)) := by
 exact k27
theorem Zgv (g : Nat) (w : World) : CW 190 #[.pointer (some ⟨g, 0, none⟩), .int .i64 5] w (.pointer (some ⟨g, 16, none⟩)) := by
 exact k27
theorem Zgw (g : Nat) (w : World) : CW 190 #[.pointer (some ⟨g, 0, none⟩), .int .i64 6] w (.pointer (some ⟨g, 17, none⟩)) := by
 exact k27
theorem ZbK (g : Nat) (n : Int) (h3 : ¬ n = 3) (h5 : ¬ n = 5) (h6 : ¬ n = 6) (w : World) : CW 190 #[.pointer (some ⟨g, 0, none⟩), .int .i64 n] w (.pointer none) := by
 exact k27
theorem yl (g : Nat) (w : World) : CW 190 #[.pointer (some ⟨g, 0, none⟩), .int .i64 0] w (.pointer none) := by
 exact k27
theorem yn (g : Nat) (w : World) : CW 190 #[.pointer (some ⟨g, 0, none⟩), .int .i64 1] w (.pointer none) := by
 exact k27
theorem yo (g : Nat) (w : World) : CW 190 #[.pointer (some ⟨g, 0, none⟩), .int .i64 2] w (.pointer none) := by
 exact k27
theorem yp (g : Nat) (w : World) : CW 190 #[.pointer (some ⟨g, 0, none⟩), .int .i64 4] w (.pointer none) := by
 exact k27
theorem k30 {P : Prop} (h : P := by
 go_enter Tryz.func191, Tryz.ntmps191
 go_wp2_with fail
 go_quiet (fail)
 go_wp2_with fail
 go_ret2
 exact ⟨rfl, below_drewN (Below.refl _ _) _⟩) : P := h
theorem yq (g : Nat) (w : World) : CB 191 #[.pointer (some ⟨g, 0, none⟩), .int .i64 0] w (.tuple #[.pointer (some ⟨g, 2, none⟩), .pointer (some ⟨g, 3, none⟩)]) := by
 exact k30
theorem yr (g : Nat) (w : World) : CB 191 #[.pointer (some ⟨g, 0, none⟩), .int .i64 1] w (.tuple #[.pointer (some ⟨g, 4, none⟩), .pointer (some ⟨g, 5, none⟩)]) := by
 exact k30
theorem yt (g : Nat) (w : World) : CB 191 #[.pointer (some ⟨g, 0, none⟩), .int .i64 2] w (.tuple #[.pointer (some ⟨g, 6, none⟩), .pointer (some ⟨g, 7, none⟩)]) := by
 exact k30
theorem yu (g : Nat) (w : World) : CB 191 #[.pointer (some ⟨g, 0, none⟩), .int .i64 4] w (.tuple #[.pointer (some ⟨g, 0, none⟩), .pointer (some ⟨g, 1, none⟩)]) := by
 exact k30
theorem k47 {P : Prop} (h : P := by
 go_enter Tryz.func191, Tryz.ntmps191
 go_wp2
 go_ret2
 exact ⟨rfl, rfl⟩) : P := h
theorem Wo (g : Nat) (n : Int) (h0 : ¬ n = 0) (h1 : ¬ n = 1) (h2 : ¬ n = 2) (h4 : ¬ n = 4) (w : World) : CW 191 #[.pointer (some ⟨g, 0, none⟩), .int .i64 n] w (.tuple #[.pointer none, .pointer none]) := by
 exact k47
theorem V3 (g : Nat) (w : World) : CW 191 #[.pointer (some ⟨g, 0, none⟩), .int .i64 3] w (.tuple #[.pointer none, .pointer none]) := by
 exact k47
theorem V4 (g : Nat) (w : World) : CW 191 #[.pointer (some ⟨g, 0, none⟩), .int .i64 5] w (.tuple #[.pointer none, .pointer none]) := by
 exact k47
theorem V5 (g : Nat) (w : World) : CW 191 #[.pointer (some ⟨g, 0, none⟩), .int .i64 6] w (.tuple #[.pointer none, .pointer none]) := by
 exact k47
theorem k28 {P : Prop} (h : P := by
 go_enter Tryz.func193, Tryz.ntmps193
 go_wp2
 go_ret
 exact ⟨rfl, rfl⟩) : P := h
theorem yv (g : Nat) (w : World) : CW 193 #[.pointer (some ⟨g, 0, none⟩), .int .i64 0] w (.pointer (some ⟨g, 2, none⟩)) := by
 exact k28
theorem yw (g : Nat) (w : World) : CW 193 #[.pointer (some ⟨g, 0, none⟩), .int .i64 1] w (.pointer (some ⟨g, 3, none⟩)) := by
 exact k28
theorem yx (g : Nat) (w : World) : CW 193 #[.pointer (some ⟨g, 0, none⟩), .int .i64 2] w (.pointer (some ⟨g, 4, none⟩)) := by
 exact k28
theorem yA (g : Nat) (w : World) : CW 193 #[.pointer (some ⟨g, 0, none⟩), .int .i64 3] w (.pointer (some ⟨g, 5, none⟩)) := by
 exact k28
theorem yB (g : Nat) (w : World) : CW 193 #[.pointer (some ⟨g, 0, none⟩), .int .i64 7] w (.pointer (some ⟨g, 0, none⟩)) := by
 exact k28
theorem Wp (g : Nat) (n : Int) (h0 : ¬ n = 0) (h1 : ¬ n = 1) (h2 : ¬ n = 2) (h3 : ¬ n = 3) (h7 : ¬ n = 7) (w : World) : CW 193 #[.pointer (some ⟨g, 0, none⟩), .int .i64 n] w (.pointer none) := by
 exact k28
theorem V6 (g : Nat) (w : World) : CW 193 #[.pointer (some ⟨g, 0, none⟩), .int .i64 4] w (.pointer none) := by
 exact k28
theorem V7 (g : Nat) (w : World) : CW 193 #[.pointer (some ⟨g, 0, none⟩), .int .i64 5] w (.pointer none) := by
 exact k28
theorem k48 {P : Prop} (h : P := by
 subst e
 go_enter Tryz.func192, Tryz.ntmps192
 go_wp2
 go_ret
 exact ⟨rfl, rfl⟩) : P := h
theorem Jx (px : Nat) (k : Int) (hk : Hid (ZT px = k)) (w : World) : CW 192 #[.int .u8 (px : Int)] w (.int .i64 k) := by
 by_cases h5 : (px : Int) = 221
 ·have e : k = 5 := by rw [← hk.out, ZT, if_pos (by omega)]
  subst e
  have e : px = 221 := by omega
  exact k48
 ·by_cases h6 : (px : Int) = 253
  ·have e : k = 6 := by rw [← hk.out, ZT, if_neg (by omega), if_pos (by omega)]
   subst e
   have e : px = 253 := by omega
   exact k48
  ·have e : k = 2 := by rw [← hk.out, ZT, if_neg (by omega), if_neg (by omega)]
   exact k48
theorem k31 {P : Prop} (h : P := by
 refine wpQuiet_nil ?_
 intro w' HM'
 clear HM; have HM := HM'; clear HM'
 go_wp2_with fail
 go_ret
 exact ⟨by rw [hx2.out]; rfl, Own.fin HM⟩) : P := h
theorem Zkv (r : Rg) (hr : r.Fits) (w : World) : CB 130 #[r.v, .int .i64 0] w (.int .u16 ((r.b * 256 + r.c : Nat) : Int)) := by
 have h1 := hr.b
 have h2 := hr.c
 clear hr
 obtain ⟨x, hx⟩ : ∃ x, Hid (r.b * 256 + r.c = x) := ⟨_, rfl⟩
 have hx2 : Hid (((r.b * 256 + r.c : Nat) : Int) = (x : Int)) := by show _ = _; rw [hx.out]
 have HM := Zb (Own.start w)
 go_enter Tryz.func130, Tryz.ntmps130
 go_wp2_with (first | (refine a0 ?_; clear HM; intro w' g' HM) | refine a13 ?_ | (go_at_call 190; (with_reducible refine (yl _ _).mono ?_); rintro e w' ⟨rfl, rfl⟩) | (go_at_call 191; (with_reducible refine (yq _ _).mono ?_); rintro e w' ⟨rfl, hb⟩; replace HM := Zb (HM.out.call hb); clear hb))
 (refine Zo HM (by kernel_rfl) (by kernel_rfl) ?_; (try simp only [Act.put, Ze, Zc, Zd]); repeat ((fail_if_success (with_reducible refine wpQuiet_nil ?_)); first | go_big_quiet_skip | (go_big_quiet_want; first | (refine a19 ?_; go_big_quiet_op; go_big_quiet_on) | (refine a20 ?_; go_big_quiet_op; go_big_quiet_on) | (refine a21 ?_; go_big_quiet_op; go_big_quiet_on) | ((with_reducible apply Zh); exact fun w => rfl; (focus (go_simp; all_goals with_reducible rfl)); (intro wq HQ; first | (with_reducible exact (YF r.b r.c x h1 h2 hx _).mono fun _ _ ⟨he, hw⟩ => ⟨he, hw ▸ Below.refl _ _⟩)); go_big_quiet_op; go_big_quiet_on) | (go_big_quiet_op; go_big_quiet_on) | (go_big_quiet_op; refine ⟨_, fun _ _ => rfl, ?_⟩; go_big_quiet_on))))
 exact k31
theorem ZbL (r : Rg) (v : Nat) (hv : v < 65536) (w : World) : CB 194 #[r.v, .int .i64 0, .int .u16 (v : Int)] w (({ r with b := v / 256, c := v % 256 } : Rg).v) := by
 obtain ⟨x, hx⟩ : ∃ x, Hid (Zx v = x) := ⟨_, rfl⟩
 obtain ⟨y, hy⟩ : ∃ y, Hid (v % 256 = y) := ⟨_, rfl⟩
 have ex : Hid (v / 256 = x) := hx
 have HM := Zb (Own.start w)
 go_enter Tryz.func194, Tryz.ntmps194
 go_wp2_with (first | (refine b0 ?_; clear HM; intro w' g' HM) | refine a6 ?_ | (refine b1 ?_; clear HM; intro w' HM) | (go_at_call 190; (with_reducible refine (yl _ _).mono ?_); rintro e w' ⟨rfl, rfl⟩) | (go_at_call 191; (with_reducible refine (yq _ _).mono ?_); rintro e w' ⟨rfl, hb⟩; replace HM := Zb (HM.out.call hb); clear hb) | (go_at_call 128; (with_reducible refine (Z7 v x y hv hx hy _).mono ?_); rintro e w' ⟨rfl, rfl⟩))
 rw [ex.out, hy.out]
 refine bodyPost_ret (v := .agg ((r.cells.set 2 (.int .u8 (x : Int))).set 3 (.int .u8 (y : Int))).toArray) (Zi HM Tryz.results194 _ rfl (by first | exact .z | exact .s .z) aggR) rfl ⟨rfl, Own.fin HM⟩
theorem Zkw (r : Rg) (hr : r.Fits) (w : World) : CB 130 #[r.v, .int .i64 1] w (.int .u16 ((r.d * 256 + r.e : Nat) : Int)) := by
 have h1 := hr.d
 have h2 := hr.e
 clear hr
 obtain ⟨x, hx⟩ : ∃ x, Hid (r.d * 256 + r.e = x) := ⟨_, rfl⟩
 have hx2 : Hid (((r.d * 256 + r.e : Nat) : Int) = (x : Int)) := by show _ = _; rw [hx.out]
 have HM := Zb (Own.start w)
 go_enter Tryz.func130, Tryz.ntmps130
 go_wp2_with (first | (refine a0 ?_; clear HM; intro w' g' HM) | refine a13 ?_ | (go_at_call 190; (with_reducible refine (yn _ _).mono ?_); rintro e w' ⟨rfl, rfl⟩) | (go_at_call 191; (with_reducible refine (yr _ _).mono ?_); rintro e w' ⟨rfl, hb⟩; replace HM := Zb (HM.out.call hb); clear hb))
 (refine Zo HM (by kernel_rfl) (by kernel_rfl) ?_; (try simp only [Act.put, Ze, Zc, Zd]); repeat ((fail_if_success (with_reducible refine wpQuiet_nil ?_)); first | go_big_quiet_skip | (go_big_quiet_want; first | (refine a19 ?_; go_big_quiet_op; go_big_quiet_on) | (refine a20 ?_; go_big_quiet_op; go_big_quiet_on) | (refine a21 ?_; go_big_quiet_op; go_big_quiet_on) | ((with_reducible apply Zh); exact fun w => rfl; (focus (go_simp; all_goals with_reducible rfl)); (intro wq HQ; first | (with_reducible exact (YF r.d r.e x h1 h2 hx _).mono fun _ _ ⟨he, hw⟩ => ⟨he, hw ▸ Below.refl _ _⟩)); go_big_quiet_op; go_big_quiet_on) | (go_big_quiet_op; go_big_quiet_on) | (go_big_quiet_op; refine ⟨_, fun _ _ => rfl, ?_⟩; go_big_quiet_on))))
 exact k31
theorem ZbM (r : Rg) (v : Nat) (hv : v < 65536) (w : World) : CB 194 #[r.v, .int .i64 1, .int .u16 (v : Int)] w (({ r with d := v / 256, e := v % 256 } : Rg).v) := by
 obtain ⟨x, hx⟩ : ∃ x, Hid (Zx v = x) := ⟨_, rfl⟩
 obtain ⟨y, hy⟩ : ∃ y, Hid (v % 256 = y) := ⟨_, rfl⟩
 have ex : Hid (v / 256 = x) := hx
 have HM := Zb (Own.start w)
 go_enter Tryz.func194, Tryz.ntmps194
 go_wp2_with (first | (refine b0 ?_; clear HM; intro w' g' HM) | refine a6 ?_ | (refine b1 ?_; clear HM; intro w' HM) | (go_at_call 190; (with_reducible refine (yn _ _).mono ?_); rintro e w' ⟨rfl, rfl⟩) | (go_at_call 191; (with_reducible refine (yr _ _).mono ?_); rintro e w' ⟨rfl, hb⟩; replace HM := Zb (HM.out.call hb); clear hb) | (go_at_call 128; (with_reducible refine (Z7 v x y hv hx hy _).mono ?_); rintro e w' ⟨rfl, rfl⟩))
 rw [ex.out, hy.out]
 refine bodyPost_ret (v := .agg ((r.cells.set 4 (.int .u8 (x : Int))).set 5 (.int .u8 (y : Int))).toArray) (Zi HM Tryz.results194 _ rfl (by first | exact .z | exact .s .z) aggR) rfl ⟨rfl, Own.fin HM⟩
theorem Zkx (r : Rg) (hr : r.Fits) (w : World) : CB 130 #[r.v, .int .i64 2] w (.int .u16 ((r.h * 256 + r.l : Nat) : Int)) := by
 have h1 := hr.h
 have h2 := hr.l
 clear hr
 obtain ⟨x, hx⟩ : ∃ x, Hid (r.h * 256 + r.l = x) := ⟨_, rfl⟩
 have hx2 : Hid (((r.h * 256 + r.l : Nat) : Int) = (x : Int)) := by show _ = _; rw [hx.out]
 have HM := Zb (Own.start w)
 go_enter Tryz.func130, Tryz.ntmps130
 go_wp2_with (first | (refine a0 ?_; clear HM; intro w' g' HM) | refine a13 ?_ | (go_at_call 190; (with_reducible refine (yo _ _).mono ?_); rintro e w' ⟨rfl, rfl⟩) | (go_at_call 191; (with_reducible refine (yt _ _).mono ?_); rintro e w' ⟨rfl, hb⟩; replace HM := Zb (HM.out.call hb); clear hb))
 (refine Zo HM (by kernel_rfl) (by kernel_rfl) ?_; (try simp only [Act.put, Ze, Zc, Zd]); repeat ((fail_if_success (with_reducible refine wpQuiet_nil ?_)); first | go_big_quiet_skip | (go_big_quiet_want; first | (refine a19 ?_; go_big_quiet_op; go_big_quiet_on) | (refine a20 ?_; go_big_quiet_op; go_big_quiet_on) | (refine a21 ?_; go_big_quiet_op; go_big_quiet_on) | ((with_reducible apply Zh); exact fun w => rfl; (focus (go_simp; all_goals with_reducible rfl)); (intro wq HQ; first | (with_reducible exact (YF r.h r.l x h1 h2 hx _).mono fun _ _ ⟨he, hw⟩ => ⟨he, hw ▸ Below.refl _ _⟩)); go_big_quiet_op; go_big_quiet_on) | (go_big_quiet_op; go_big_quiet_on) | (go_big_quiet_op; refine ⟨_, fun _ _ => rfl, ?_⟩; go_big_quiet_on))))
 exact k31
theorem ZbN (r : Rg) (v : Nat) (hv : v < 65536) (w : World) : CB 194 #[r.v, .int .i64 2, .int .u16 (v : Int)] w (({ r with h := v / 256, l := v % 256 } : Rg).v) := by
 obtain ⟨x, hx⟩ : ∃ x, Hid (Zx v = x) := ⟨_, rfl⟩
 obtain ⟨y, hy⟩ : ∃ y, Hid (v % 256 = y) := ⟨_, rfl⟩
 have ex : Hid (v / 256 = x) := hx
 have HM := Zb (Own.start w)
 go_enter Tryz.func194, Tryz.ntmps194
 go_wp2_with (first | (refine b0 ?_; clear HM; intro w' g' HM) | refine a6 ?_ | (refine b1 ?_; clear HM; intro w' HM) | (go_at_call 190; (with_reducible refine (yo _ _).mono ?_); rintro e w' ⟨rfl, rfl⟩) | (go_at_call 191; (with_reducible refine (yt _ _).mono ?_); rintro e w' ⟨rfl, hb⟩; replace HM := Zb (HM.out.call hb); clear hb) | (go_at_call 128; (with_reducible refine (Z7 v x y hv hx hy _).mono ?_); rintro e w' ⟨rfl, rfl⟩))
 rw [ex.out, hy.out]
 refine bodyPost_ret (v := .agg ((r.cells.set 6 (.int .u8 (x : Int))).set 7 (.int .u8 (y : Int))).toArray) (Zi HM Tryz.results194 _ rfl (by first | exact .z | exact .s .z) aggR) rfl ⟨rfl, Own.fin HM⟩
theorem Zky (r : Rg) (w : World) : CB 130 #[r.v, .int .i64 3] w (.int .u16 (r.sp : Int)) := by
 have HM := Zb (Own.start w)
 go_enter Tryz.func130, Tryz.ntmps130
 go_wp2_with (first | (refine a0 ?_; clear HM; intro w' g' HM) | refine a13 ?_ | (go_at_call 190; (with_reducible refine (Zgu _ _).mono ?_); rintro e w' ⟨rfl, rfl⟩) | (go_at_call 191; (with_reducible refine (V3 _ _).mono ?_); rintro e w' ⟨rfl, rfl⟩))
 go_ret
 exact ⟨rfl, Own.fin HM⟩
theorem ZbO (r : Rg) (v : Nat) (_hv : v < 65536) (w : World) : CB 194 #[r.v, .int .i64 3, .int .u16 (v : Int)] w (({ r with sp := v } : Rg).v) := by
 have HM := Zb (Own.start w)
 go_enter Tryz.func194, Tryz.ntmps194
 go_wp2_with (first | (refine b0 ?_; clear HM; intro w' g' HM) | refine a6 ?_ | (refine b1 ?_; clear HM; intro w' HM) | (go_at_call 190; (with_reducible refine (Zgu _ _).mono ?_); rintro e w' ⟨rfl, rfl⟩) | (go_at_call 191; (with_reducible refine (V3 _ _).mono ?_); rintro e w' ⟨rfl, rfl⟩))
 refine bodyPost_ret (v := .agg (r.cells.set 18 (.int .u16 (v : Int))).toArray) (Zi HM Tryz.results194 _ rfl (by first | exact .z | exact .s .z) aggR) rfl ⟨rfl, Own.fin HM⟩
theorem Zkz (r : Rg) (hr : r.Fits) (w : World) : CB 130 #[r.v, .int .i64 4] w (.int .u16 ((r.a * 256 + r.f : Nat) : Int)) := by
 have h1 := hr.a
 have h2 := hr.f
 clear hr
 obtain ⟨x, hx⟩ : ∃ x, Hid (r.a * 256 + r.f = x) := ⟨_, rfl⟩
 have hx2 : Hid (((r.a * 256 + r.f : Nat) : Int) = (x : Int)) := by show _ = _; rw [hx.out]
 have HM := Zb (Own.start w)
 go_enter Tryz.func130, Tryz.ntmps130
 go_wp2_with (first | (refine a0 ?_; clear HM; intro w' g' HM) | refine a13 ?_ | (go_at_call 190; (with_reducible refine (yp _ _).mono ?_); rintro e w' ⟨rfl, rfl⟩) | (go_at_call 191; (with_reducible refine (yu _ _).mono ?_); rintro e w' ⟨rfl, hb⟩; replace HM := Zb (HM.out.call hb); clear hb))
 (refine Zo HM (by kernel_rfl) (by kernel_rfl) ?_; (try simp only [Act.put, Ze, Zc, Zd]); repeat ((fail_if_success (with_reducible refine wpQuiet_nil ?_)); first | go_big_quiet_skip | (go_big_quiet_want; first | (refine a19 ?_; go_big_quiet_op; go_big_quiet_on) | (refine a20 ?_; go_big_quiet_op; go_big_quiet_on) | (refine a21 ?_; go_big_quiet_op; go_big_quiet_on) | ((with_reducible apply Zh); exact fun w => rfl; (focus (go_simp; all_goals with_reducible rfl)); (intro wq HQ; first | (with_reducible exact (YF r.a r.f x h1 h2 hx _).mono fun _ _ ⟨he, hw⟩ => ⟨he, hw ▸ Below.refl _ _⟩)); go_big_quiet_op; go_big_quiet_on) | (go_big_quiet_op; go_big_quiet_on) | (go_big_quiet_op; refine ⟨_, fun _ _ => rfl, ?_⟩; go_big_quiet_on))))
 exact k31
theorem ZbP (r : Rg) (v : Nat) (hv : v < 65536) (w : World) : CB 194 #[r.v, .int .i64 4, .int .u16 (v : Int)] w (({ r with a := v / 256, f := v % 256 } : Rg).v) := by
 obtain ⟨x, hx⟩ : ∃ x, Hid (Zx v = x) := ⟨_, rfl⟩
 obtain ⟨y, hy⟩ : ∃ y, Hid (v % 256 = y) := ⟨_, rfl⟩
 have ex : Hid (v / 256 = x) := hx
 have HM := Zb (Own.start w)
 go_enter Tryz.func194, Tryz.ntmps194
 go_wp2_with (first | (refine b0 ?_; clear HM; intro w' g' HM) | refine a6 ?_ | (refine b1 ?_; clear HM; intro w' HM) | (go_at_call 190; (with_reducible refine (yp _ _).mono ?_); rintro e w' ⟨rfl, rfl⟩) | (go_at_call 191; (with_reducible refine (yu _ _).mono ?_); rintro e w' ⟨rfl, hb⟩; replace HM := Zb (HM.out.call hb); clear hb) | (go_at_call 128; (with_reducible refine (Z7 v x y hv hx hy _).mono ?_); rintro e w' ⟨rfl, rfl⟩))
 rw [ex.out, hy.out]
 refine bodyPost_ret (v := .agg ((r.cells.set 0 (.int .u8 (x : Int))).set 1 (.int .u8 (y : Int))).toArray) (Zi HM Tryz.results194 _ rfl (by first | exact .z | exact .s .z) aggR) rfl ⟨rfl, Own.fin HM⟩
theorem ZkA (r : Rg) (w : World) : CB 130 #[r.v, .int .i64 5] w (.int .u16 (r.ix : Int)) := by
 have HM := Zb (Own.start w)
 go_enter Tryz.func130, Tryz.ntmps130
 go_wp2_with (first | (refine a0 ?_; clear HM; intro w' g' HM) | refine a13 ?_ | (go_at_call 190; (with_reducible refine (Zgv _ _).mono ?_); rintro e w' ⟨rfl, rfl⟩) | (go_at_call 191; (with_reducible refine (V4 _ _).mono ?_); rintro e w' ⟨rfl, rfl⟩))
 go_ret
 exact ⟨rfl, Own.fin HM⟩
theorem ZbQ (r : Rg) (v : Nat) (_hv : v < 65536) (w : World) : CB 194 #[r.v, .int .i64 5, .int .u16 (v : Int)] w (({ r with ix := v } : Rg).v) := by
 have HM := Zb (Own.start w)
 go_enter Tryz.func194, Tryz.ntmps194
 go_wp2_with (first | (refine b0 ?_; clear HM; intro w' g' HM) | refine a6 ?_ | (refine b1 ?_; clear HM; intro w' HM) | (go_at_call 190; (with_reducible refine (Zgv _ _).mono ?_); rintro e w' ⟨rfl, rfl⟩) | (go_at_call 191; (with_reducible refine (V4 _ _).mono ?_); rintro e w' ⟨rfl, rfl⟩))
 refine bodyPost_ret (v := .agg (r.cells.set 16 (.int .u16 (v : Int))).toArray) (Zi HM Tryz.results194 _ rfl (by first | exact .z | exact .s .z) aggR) rfl ⟨rfl, Own.fin HM⟩
theorem ZkB (r : Rg) (w : World) : CB 130 #[r.v, .int .i64 6] w (.int .u16 (r.iy : Int)) := by
 have HM := Zb (Own.start w)
 go_enter Tryz.func130, Tryz.ntmps130
 go_wp2_with (first | (refine a0 ?_; clear HM; intro w' g' HM) | refine a13 ?_ | (go_at_call 190; (with_reducible refine (Zgw _ _).mono ?_); rintro e w' ⟨rfl, rfl⟩) | (go_at_call 191; (with_reducible refine (V5 _ _).mono ?_); rintro e w' ⟨rfl, rfl⟩))
 go_ret
 exact ⟨rfl, Own.fin HM⟩
theorem ZbR (r : Rg) (v : Nat) (_hv : v < 65536) (w : World) : CB 194 #[r.v, .int .i64 6, .int .u16 (v : Int)] w (({ r with iy := v } : Rg).v) := by
 have HM := Zb (Own.start w)
 go_enter Tryz.func194, Tryz.ntmps194
 go_wp2_with (first | (refine b0 ?_; clear HM; intro w' g' HM) | refine a6 ?_ | (refine b1 ?_; clear HM; intro w' HM) | (go_at_call 190; (with_reducible refine (Zgw _ _).mono ?_); rintro e w' ⟨rfl, rfl⟩) | (go_at_call 191; (with_reducible refine (V5 _ _).mono ?_); rintro e w' ⟨rfl, rfl⟩))
 refine bodyPost_ret (v := .agg (r.cells.set 17 (.int .u16 (v : Int))).toArray) (Zi HM Tryz.results194 _ rfl (by first | exact .z | exact .s .z) aggR) rfl ⟨rfl, Own.fin HM⟩
theorem pair_no (r : Rg) (n : Int) (hn : ¬ n = 0 ∧ ¬ n = 1 ∧ ¬ n = 2 ∧ ¬ n = 3 ∧ ¬ n = 4 ∧ ¬ n = 5 ∧ ¬ n = 6) (w : World) : CB 130 #[r.v, .int .i64 n] w (.int .u16 0) := by
 obtain ⟨h0, h1, h2, h3, h4, h5, h6⟩ := hn
 have HM := Zb (Own.start w)
 go_enter Tryz.func130, Tryz.ntmps130
 go_wp2_with (first | (refine a0 ?_; clear HM; intro w' g' HM) | refine a13 ?_ | (go_at_call 190; (with_reducible refine (ZbK _ n h3 h5 h6 _).mono ?_); rintro e w' ⟨rfl, rfl⟩) | (go_at_call 191; (with_reducible refine (Wo _ n h0 h1 h2 h4 _).mono ?_); rintro e w' ⟨rfl, rfl⟩))
 go_ret
 exact ⟨rfl, Own.fin HM⟩
theorem setPair_no (r : Rg) (n : Int) (hn : ¬ n = 0 ∧ ¬ n = 1 ∧ ¬ n = 2 ∧ ¬ n = 3 ∧ ¬ n = 4 ∧ ¬ n = 5 ∧ ¬ n = 6) (v : Nat) (_hv : v < 65536) (w : World) : CB 194 #[r.v, .int .i64 n, .int .u16 (v : Int)] w (r.v) := by
 obtain ⟨h0, h1, h2, h3, h4, h5, h6⟩ := hn
 have HM := Zb (Own.start w)
 go_enter Tryz.func194, Tryz.ntmps194
 go_wp2_with (first | (refine b0 ?_; clear HM; intro w' g' HM) | refine a6 ?_ | (refine b1 ?_; clear HM; intro w' HM) | (go_at_call 190; (with_reducible refine (ZbK _ n h3 h5 h6 _).mono ?_); rintro e w' ⟨rfl, rfl⟩) | (go_at_call 191; (with_reducible refine (Wo _ n h0 h1 h2 h4 _).mono ?_); rintro e w' ⟨rfl, rfl⟩))
 refine bodyPost_ret (v := .agg r.cells.toArray) (Zi HM Tryz.results194 _ rfl (by first | exact .z | exact .s .z) aggR) rfl ⟨rfl, Own.fin HM⟩
theorem Ky (r : Rg) (hr : r.Fits) (n : Int) (P : Nat) (hP : Hid (r.pair n = P)) (w : World) : CB 130 #[r.v, .int .i64 n] w (.int .u16 (P : Int)) := by
 rw [← hP.out]
 rcases VX n with rfl | rfl | rfl | rfl | rfl | rfl | rfl | hn
 ·exact Zkv r hr w
 ·exact Zkw r hr w
 ·exact Zkx r hr w
 ·exact Zky r w
 ·exact Zkz r hr w
 ·exact ZkA r w
 ·exact ZkB r w
 ·rw [r.pair_no n hn]; exact pair_no r n hn w
theorem Kz (r : Rg) (n : Int) (v : Nat) (hv : v < 65536) (s : Rg) (hs : Hid (r.setPair n v = s)) (w : World) : CB 194 #[r.v, .int .i64 n, .int .u16 (v : Int)] w s.v := by
 rw [← hs.out]
 rcases VX n with rfl | rfl | rfl | rfl | rfl | rfl | rfl | hn
 ·exact ZbL r v hv w
 ·exact ZbM r v hv w
 ·exact ZbN r v hv w
 ·exact ZbO r v hv w
 ·exact ZbP r v hv w
 ·exact ZbQ r v hv w
 ·exact ZbR r v hv w
 ·rw [r.setPair_no n v hn]; exact setPair_no r n hn v hv w
end
end Go.Proofs.YtgdeeiimkhjfiaaGreatDoor
