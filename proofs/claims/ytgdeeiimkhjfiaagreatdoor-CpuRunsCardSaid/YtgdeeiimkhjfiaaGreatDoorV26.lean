import Derived.Test.YtgdeeiimkhjfiaaGreatDoorV25
set_option maxRecDepth 100000
set_option maxHeartbeats 6400000
namespace Go.Proofs.YtgdeeiimkhjfiaaGreatDoor
open Go.RowKit
section
variable {W0 w : World} {x b tq n c : Nat} {s : Cs} {ix : Bool} {pg : Int} {l : Zj}
theorem VA {a b : Int} {v f : Nat} (h : a = (v : Int)) (h' : b = (f : Int)) : (Ending.returned (.tuple #[.int .u16 a, .int .u8 b]) : Ending) = .returned (.tuple #[.int .u16 (v : Int), .int .u8 (f : Int)]) := by rw [h, h']
theorem Zdj {a : Int} {v : Nat} (h : a = (v : Int)) : (Ending.returned (.int .u16 a) : Ending) = .returned (.int .u16 (v : Int)) := by rw [h]
theorem J9 (n : Int) (v : Nat) (hv : Hid (n % 65536 = (v : Int))) (w : World) :
  CW 77 #[.int .i64 n] w (.int .u16 (v : Int)) := by
 obtain ⟨q, hq⟩ : ∃ q, n.tmod 65536 = q := ⟨_, rfl⟩
 have q0 : -65536 < q ∧ q < 65536 ∧ q % 65536 = n % 65536 := by
  rw [← hq, Int.tmod_eq_emod]
  split <;> simp <;> omega
 have hq2 : (q + 65536).tmod 65536 = (v : Int) := by
  rw [Int.tmod_eq_emod_of_nonneg (by omega)]
  have := hv.out
  omega
 have b1 := q0.1
 have b2 := q0.2.1
 have v1 : (v : Int) < 65536 := by have := hv.out; omega
 clear q0 hv
 go_enter Tryz.func77, Tryz.ntmps77
 go_wp2
 go_ret
 exact ⟨rfl, rfl⟩
theorem Jd (h l v : Nat) (hh : h < 256) (hl : l < 256) (hv : Hid (h * 256 + l = v)) (w : World) :
  CW 60 #[.int .u8 (h : Int), .int .u8 (l : Int)] w (.int .u16 (v : Int)) := by
 have e : (h : Int) * 256 + (l : Int) = (v : Int) := by have := hv.out; omega
 go_enter Tryz.func60, Tryz.ntmps60
 go_wp2
 go_ret
 exact ⟨Zdj (by omega), rfl⟩
theorem k53 {P : Prop} (h : P := by
 go_enter Tryz.func35, Tryz.ntmps35
 go_wp2_with (go_at_call 77; (with_reducible refine (J9 _ r e _).mono ?_); rintro e w' ⟨rfl, rfl⟩)
 go_ret
 exact ⟨rfl, rfl⟩) : P := h
theorem JC (v b r : Nat) (hv : v < 65536) (hb : b < 256) (hr : Hid (wMove v b = r)) (w : World) :
  CW 35 #[.int .u16 (v : Int), .int .u8 (b : Int)] w (.int .u16 (r : Int)) := by
 by_cases h : (128 : Int) ≤ (b : Int)
 ·have e : Hid (((v : Int) + ((b : Int) - 256)) % 65536 = (r : Int)) := by
   have h2 := hr.out
   unfold wMove at h2
   rw [show Nat.ble 128 b = true from Zkj (by omega)] at h2
   have h3 : (v + (b + 65280)) % 65536 = r := h2
   show _ = _
   omega
  exact k53
 ·have e : Hid (((v : Int) + (b : Int)) % 65536 = (r : Int)) := by
   have h2 := hr.out
   unfold wMove at h2
   rw [show Nat.ble 128 b = false from Zkk (by omega)] at h2
   have h3 : (v + b) % 65536 = r := h2
   show _ = _
   omega
  exact k53
def ZW (v : Nat) : Int := if 32768 ≤ v then (v : Int) - 65536 else v
theorem JD (v : Nat) (h : v < 65536) : -32768 ≤ ZW v ∧ ZW v ≤ 32767 := by unfold ZW; split <;> omega
theorem JE (v : Nat) (h : v < 65536) (r : Int) (hr : Hid (ZW v = r)) (w : World) : CW 166 #[.int .u16 (v : Int)] w (.int .i64 r) := by
 by_cases hv : (32768 : Int) ≤ (v : Int)
 ·have e : (v : Int) - 65536 = r := by rw [← hr.out]; unfold ZW; rw [if_pos (by omega)]
  have HE := Zb e
  clear e
  go_enter Tryz.func166, Tryz.ntmps166
  go_wp2
  go_ret
  exact ⟨by rw [← HE.out]; rfl, rfl⟩
 ·have e : (v : Int) = r := by rw [← hr.out]; unfold ZW; rw [if_neg (by omega)]
  subst e
  go_enter Tryz.func166, Tryz.ntmps166
  go_wp2
  go_ret
  exact ⟨rfl, rfl⟩
theorem VB (v : Nat) (s z y x : Bool) (h : v < 65536) (hr : Hid (nS (Zx v) = s ∧ nZ v = z ∧ Zf 32 (Zx v) = y ∧ Zf 8 (Zx v) = x)) (w : World) :
  CB 165 #[.int .u16 (v : Int)] w (.agg #[.bool s, .bool z, .bool y, .bool false, .bool x, .bool false, .bool false, .bool false]) := by
 obtain ⟨u, hu⟩ : ∃ u, Zx v = u := ⟨_, rfl⟩
 have u1 : u < 256 := by rw [← hu]; exact Yd _ h
 rw [hu] at hr
 obtain ⟨z', hz'⟩ : ∃ z', nZ u = z' := ⟨_, rfl⟩
 have hr' : Hid (nS u = s ∧ nZ u = z' ∧ Zf 32 u = y ∧ Zf 8 u = x) := ⟨hr.out.1, hz', hr.out.2.2.1, hr.out.2.2.2⟩
 have e1 : ((v : Int)).tdiv 256 = (u : Int) := by
  rw [Int.tdiv_eq_ediv_of_nonneg (by omega)]
  have : v / 256 = u := hu
  omega
 have HZ : Hid (((v : Int) == 0) = z) := by
  have h := hr.out.2.1
  rw [← h]
  exact ZeL v 0
 have HM := Zb (Own.start w)
 clear hr hz' hu
 go_enter Tryz.func165, Tryz.ntmps165
 go_wp2_with (first | (refine b7 ?_; clear HM; intro w' g' HM) | refine b8 ?_ | (refine a12 ?_; clear HM; intro w' HM) | (go_at_call 85; (with_reducible refine (Z3 u s z' y x u1 hr' _).mono ?_); rintro e w' ⟨rfl, hb⟩; replace HM := Zb (HM.out.call hb); clear hb))
 refine bodyPost_ret (v := .agg #[.bool _, .bool _, .bool _, .bool _, .bool _, .bool _, .bool _, .bool _]) (Zi HM Tryz.results165 _ rfl (by first | exact .z | exact .s .z) aggF) rfl ⟨?_, Own.fin HM⟩
 exact Vb rfl HZ.out rfl rfl rfl rfl rfl rfl
theorem Zli (f : Nat) (b7 b6 b5 b4 b3 b2 b1 b0 : Bool) (h : f < 256) (hr : Hid (Zf 128 f = b7 ∧ Zf 64 f = b6 ∧ Zf 32 f = b5 ∧ Zf 16 f = b4 ∧ Zf 8 f = b3 ∧ Zf 4 f = b2 ∧ Zf 2 f = b1 ∧ Zf 1 f = b0)) (w : World) :
  Calls Tryz.prog 164 #[.int .u8 (f : Int)] w fun e w' =>
  e = .returned (.agg #[.bool b7, .bool b6, .bool b5, .bool b4, .bool b3, .bool b2, .bool b1, .bool b0]) ∧ Below w.heap.size w w' := by
 obtain ⟨rfl, rfl, rfl, rfl, rfl, rfl, rfl, rfl⟩ := hr.out; exact WA f h w
theorem Zdk (a b f v g : Nat) (s z y x p : Bool) (hv : Yu a b 0 = v) (hg : VR a b f = g) (hb : Zf 128 f = s ∧ Zf 64 f = z ∧ Zf 4 f = p) (hs : Zf 32 (Zx v) = y ∧ Zf 8 (Zx v) = x) (H C : Bool)
  (hH : H = true ↔ (4095 : Int) < (a : Int) % 4096 + (b : Int) % 4096) (hC : C = true ↔ (65535 : Int) < (a : Int) + b) : Zq s z y H x p false C = g := by
 obtain ⟨rfl, rfl, rfl⟩ := hb
 obtain ⟨rfl, rfl⟩ := hs
 rw [← hg]
 unfold VR
 rw [hv]
 have e1 : H = Kq a b 0 := by rw [Bool.eq_iff_iff, hH, JY]; omega
 have e2 : C = vH a b 0 := by rw [Bool.eq_iff_iff, hC, K4]; omega
 rw [e1, e2]
theorem Zdl (a b k v g : Nat) (s z y x : Bool) (ha : a < 65536) (hb : b < 65536) (hk : k ≤ 1) (hv : Yu a b k = v) (hg : JX a b k = g) (hs : nS (Zx v) = s ∧ nZ v = z ∧ Zf 32 (Zx v) = y ∧ Zf 8 (Zx v) = x) (H P C : Bool)
  (hH : H = true ↔ (4095 : Int) < (a : Int) % 4096 + (b : Int) % 4096 + k) (hP : P = true ↔ (ZW a + ZW b + k < -32768 ∨ 32767 < ZW a + ZW b + k)) (hC : C = true ↔ (65535 : Int) < (a : Int) + b + k) : Zq s z y H x P false C = g := by
 obtain ⟨rfl, rfl, rfl, rfl⟩ := hs
 rw [← hg]
 unfold JX
 rw [hv]
 have e1 : H = Kq a b k := by rw [Bool.eq_iff_iff, hH, JY]; omega
 have e2 : C = vH a b k := by rw [Bool.eq_iff_iff, hC, K4]; omega
 have e3 : P = Ur (Nat.add (Nat.add (JI a) (JI b)) k) := by
  rw [Bool.eq_iff_iff, hP, JZ]
  unfold ZW
  show _ ↔ ¬ (32768 ≤ (a + 32768) % 65536 + (b + 32768) % 65536 + k ∧ (a + 32768) % 65536 + (b + 32768) % 65536 + k ≤ 98303)
  split <;> split <;> omega
 rw [e1, e2, e3]
theorem Zdm (a b k v g : Nat) (s z y x : Bool) (ha : a < 65536) (hb : b < 65536) (hk : k ≤ 1) (hv : Jg a b k = v) (hg : Vl a b k = g) (hs : nS (Zx v) = s ∧ nZ v = z ∧ Zf 32 (Zx v) = y ∧ Zf 8 (Zx v) = x) (H P C : Bool)
  (hH : H = true ↔ (a : Int) % 4096 - (b : Int) % 4096 - k < 0) (hP : P = true ↔ (ZW a - ZW b - k < -32768 ∨ 32767 < ZW a - ZW b - k)) (hC : C = true ↔ (a : Int) - b - k < 0) : Zq s z y H x P true C = g := by
 obtain ⟨rfl, rfl, rfl, rfl⟩ := hs
 rw [← hg]
 unfold Vl
 rw [hv]
 have e1 : H = VY a b k := by
  unfold VY
  rw [Bool.eq_iff_iff, hH, Nat.ble_eq]
  show _ ↔ a % 4096 + 1 ≤ b % 4096 + k
  omega
 have e2 : C = vI a b k := by
  unfold vI
  rw [Bool.eq_iff_iff, hC, Nat.ble_eq]
  show _ ↔ a + 1 ≤ b + k
  omega
 have e3 : P = Ur (Nat.sub (Nat.add (JI a) 65536) (Nat.add (JI b) k)) := by
  rw [Bool.eq_iff_iff, hP, JZ]
  unfold ZW
  show _ ↔ ¬ (32768 ≤ (a + 32768) % 65536 + 65536 - ((b + 32768) % 65536 + k) ∧ (a + 32768) % 65536 + 65536 - ((b + 32768) % 65536 + k) ≤ 98303)
  split <;> split <;> omega
 rw [e1, e2, e3]
theorem yQ (a b f v g : Nat) (ha : a < 65536) (hb : b < 65536) (hf : f < 256) (hv : Hid (Yu a b 0 = v)) (hg : Hid (VR a b f = g)) (w : World) :
  CB 94 #[.int .u16 (a : Int), .int .u16 (b : Int), .int .u8 (f : Int)] w (.tuple #[.int .u16 (v : Int), .int .u8 (g : Int)]) := by
 have HM := Zb (Own.start w)
 have v1 : v < 65536 := by rw [← hv.out]; exact Ys _ _ _
 obtain ⟨s, z, b5, b4, b3, p, b1, b0, hbits⟩ : ∃ s z b5 b4 b3 p b1 b0, Hid (Zf 128 f = s ∧ Zf 64 f = z ∧ Zf 32 f = b5 ∧ Zf 16 f = b4 ∧ Zf 8 f = b3 ∧ Zf 4 f = p ∧ Zf 2 f = b1 ∧ Zf 1 f = b0) := ⟨_, _, _, _, _, _, _, _, rfl, rfl, rfl, rfl, rfl, rfl, rfl, rfl⟩
 obtain ⟨s', z', y, x, hs⟩ : ∃ s z y x, Hid (nS (Zx v) = s ∧ nZ v = z ∧ Zf 32 (Zx v) = y ∧ Zf 8 (Zx v) = x) := ⟨_, _, _, _, rfl, rfl, rfl, rfl⟩
 have hkey := Zdk a b f v g s z y x p hv.out hg.out ⟨hbits.out.1, hbits.out.2.1, hbits.out.2.2.2.2.2.1⟩ hs.out.2.2
 have HN : Hid (((a : Int) + (b : Int)) % 65536 = (v : Int)) := by
  have h : (a + b + 0) % 65536 = v := hv.out
  show _ = _
  omega
 have h12a : (a : Int).tmod 4096 = (a : Int) % 4096 := Int.tmod_eq_emod_of_nonneg (by omega)
 have h12b : (b : Int).tmod 4096 = (b : Int) % 4096 := Int.tmod_eq_emod_of_nonneg (by omega)
 have HK : Hid (∀ H C : Bool, (H = true ↔ (4095 : Int) < (a : Int) % 4096 + (b : Int) % 4096) → (C = true ↔ (65535 : Int) < (a : Int) + b) → Hid (Zq s z y H x p false C = g)) :=
  fun H C hH hC => hkey H C hH hC
 clear hv hg hkey
 go_enter Tryz.func94, Tryz.ntmps94
 go_wp2_with (first | (refine b7 ?_; clear HM; intro w' g' HM) | refine b8 ?_ | (refine a12 ?_; clear HM; intro w' HM) | (go_at_call 77; (with_reducible refine (J9 _ v HN _).mono ?_); rintro e w' ⟨rfl, rfl⟩) | (go_at_call 164; (with_reducible refine (Zli f s z b5 b4 b3 p b1 b0 hf hbits _).mono ?_); rintro e w' ⟨rfl, hb⟩; replace HM := Zb (HM.out.call hb); clear hb) | (go_at_call 165; (with_reducible refine (VB v s' z' y x v1 hs _).mono ?_); rintro e w' ⟨rfl, hb⟩; replace HM := Zb (HM.out.call hb); clear hb) | (go_at_call 86; refine (Zs _ _ _ _ _ _ _ _ g (HK.out _ _ (by first | (simp; done) | (simp; omega)) (by first | (simp; done) | (simp; omega))) _).mono ?_; rintro e w' ⟨rfl, hb⟩; replace HM := Zb (HM.out.call hb); clear hb))
 all_goals
  go_ret2
  exact ⟨VA rfl rfl, Own.fin HM⟩
structure Nm (t : Tx) (g : Rg → Nat) (st : Rg → Nat → Rg) (bd : Nat) : Prop where
 get : ∀ (r : Rg) (w : World), r.Fits → Calls Tryz.prog 43 #[r.v, .string ⟨t.toArray⟩] w fun e w' => e = .returned (.int .i64 (g r : Int)) ∧ Below w.heap.size w w'
 set : ∀ (r : Rg) (v : Nat) (w : World), r.Fits → v < bd → Calls Tryz.prog 99 #[r.v, .string ⟨t.toArray⟩, .int .i64 (v : Int)] w fun e w' => e = .returned (st r v).v ∧ Below w.heap.size w w'
 lt : ∀ r : Rg, r.Fits → g r < bd
 fits : ∀ (r : Rg) (v : Nat), r.Fits → v < bd → (st r v).Fits
 top : bd ≤ 65536
def leT (n px : Nat) : Tx := (KW (n : Int) px).data.toList
def naT (k : Nat) : Tx := (rgName k).data.toList
theorem Zdn (n px : Nat) : (⟨(leT n px).toArray⟩ : ByteArray) = KW (n : Int) px := by unfold leT; rfl
theorem jJ (k : Nat) : (⟨(naT k).toArray⟩ : ByteArray) = rgName k := by unfold naT; rfl
theorem Nm.ofLet (n q : Nat) (hn : n ≤ 7 ∧ n ≠ 6) : Nm (leT n q) (fun r => r.one n q) (fun r v => r.setOne n q v) 256 where
 get r w hr := by rw [Zdn]; exact Zfb r hr n q (by omega) _ (Zb rfl) _ (Zb rfl) w
 set r v w hr hv := by rw [Zdn]; exact Zfc r hr n q (by omega) _ (Zb rfl) v hv _ (Zb rfl) w
 lt r hr := r.one_lt hr n q
 fits r v hr hv := r.setOne_fits hr n q v hv
 top := by decide
theorem Nm.ofPair (k : Nat) (hk : k < 7) : Nm (naT k) (fun r => r.pair k) (fun r v => r.setPair k v) 65536 where
 get r w hr := by rw [jJ]; exact Zda r hr k hk _ (Zb rfl) w
 set r v w hr hv := by rw [jJ]; exact Zdb r k hk v hv _ (Zb rfl) w
 lt r hr := r.pair_lt hr k
 fits r v hr hv := r.setPair_fits hr k v hv
 top := Nat.le_refl _
theorem Z6 (v r : Nat) (hv : v < 65536) (hr : Hid (wMove v 1 = r)) (w : World) : Calls Tryz.prog 35 #[.int .u16 (v : Int), .int .u8 1] w fun e w' => e = .returned (.int .u16 (r : Int)) ∧ w = w' := JC v 1 r hv (by decide) hr w
theorem zh (v r : Nat) (hv : v < 65536) (hr : Hid (wMove v 254 = r)) (w : World) : Calls Tryz.prog 35 #[.int .u16 (v : Int), .int .u8 254] w fun e w' => e = .returned (.int .u16 (r : Int)) ∧ w = w' := JC v 254 r hv (by decide) hr w
theorem tick_fits (r : Rg) (h : r.Fits) : r.tick.Fits := { h with r := by show r.r / 128 * 128 + (r.r % 128 + 1) % 128 < 256; have := h.r; omega }
theorem Cs.next_two (s : Cs) : s.next.next = s.nextNum := by
 show (({ s with u := (s.u.rd s.r.pc).rd (up1 s.r.pc), r := { s.r with pc := up1 (up1 s.r.pc) } } : Cs)) = { s with u := (s.u.rd s.r.pc).rd (up1 s.r.pc), r := { s.r with pc := (s.r.pc + 2) % 65536 } }
 rw [show up1 (up1 s.r.pc) = (s.r.pc + 2) % 65536 by unfold up1; omega]
theorem Yq {t : Tx} {g : Rg → Nat} {st : Rg → Nat → Rg} {bd : Nat} (hN : Nm t g st bd) (z : Nat) (hz : Hid (g s.r = z)) (H : Hid (Ex W0 w x b s tq ix pg l n)) :
  CX 22 #[.pointer (some ⟨x, 0, none⟩), .string ⟨t.toArray⟩] w (.int .i64 (z : Int)) fun w' => Hid (Ex W0 w' x b s tq ix pg l n) := by
 have hg := Zb (fun w => hN.get s.r w H.out.fits)
 rw [hz.out] at hg
 go_enter Tryz.func22, Tryz.ntmps22
 go_wp2_with (first | ((with_reducible apply xrY H); exact xrS) | (go_at_call 43; (with_reducible refine (hg.out _).mono ?_); rintro e w' ⟨rfl, hb⟩; replace H := Zb (H.out.call hb); clear hb) | fail)
 go_ret
 exact ⟨rfl, H⟩
theorem Y1 {t : Tx} {g : Rg → Nat} {st : Rg → Nat → Rg} {bd : Nat} (hN : Nm t g st bd) (z u : Int) (v : Nat) (hv : v < bd) (h1 : z.tmod 65536 = u) (h2 : (u + 65536).tmod 65536 = (v : Int)) (hu1 : -65536 < u) (hu2 : u < 65536) (r : Rg) (hr : Hid (st s.r v = r)) (H : Hid (Ex W0 w x b s tq ix pg l n)) :
  CX 49 #[.pointer (some ⟨x, 0, none⟩), .string ⟨t.toArray⟩, .int .i64 z] w (.tuple #[]) fun w' => Hid (Ex W0 w' x b (s.setR r) tq ix pg l n) := by
 have hg := Zb (fun w => hN.set s.r v w H.out.fits hv)
 have hf : r.Fits := by rw [← hr.out]; exact hN.fits _ _ H.out.fits hv
 rw [hr.out] at hg
 go_enter Tryz.func49, Tryz.ntmps49
 go_wp2_with (first | ((with_reducible apply xrY H); exact xrS) | (go_at_call 99; (with_reducible refine (hg.out _).mono ?_); rintro e w' ⟨rfl, hb⟩; replace H := Zb (H.out.call hb); clear hb) | ((with_reducible apply xlY H); exact xlS; clear H; intro w' H) | fail)
 (first | go_end0 | ((try simp only [Exit.inBlock, Exit.then]); refine bodyPost_ret (results_none rfl _ _ _) rfl ?_))
 exact ⟨rfl, H⟩
theorem Z1 {t : Tx} {g : Rg → Nat} {st : Rg → Nat → Rg} {bd : Nat} (hN : Nm t g st bd) (v : Nat) (hv : v < bd) (r : Rg) (hr : Hid (st s.r v = r)) (H : Hid (Ex W0 w x b s tq ix pg l n)) :
  CX 49 #[.pointer (some ⟨x, 0, none⟩), .string ⟨t.toArray⟩, .int .i64 (v : Int)] w (.tuple #[]) fun w' => Hid (Ex W0 w' x b (s.setR r) tq ix pg l n) := by
 have := hN.top
 exact Y1 hN v v v hv (by rw [Int.tmod_eq_emod_of_nonneg (by omega)]; omega) (by rw [Int.tmod_eq_emod_of_nonneg (by omega)]; omega) (by omega) (by omega) r hr H
theorem VV (a v : Nat) (s' : Cs) (ha : a < 65536) (hv : Hid (s.m a = v)) (hs : Hid (s.rd a = s')) (H : Hid (Ex W0 w x b s tq ix pg l (n + 1))) :
  CX 36 #[.pointer (some ⟨b, 0, none⟩), .int .u16 (a : Int)] w (.int .u8 (v : Int)) fun w' => v < 256 ∧ Hid (Ex W0 w' x b s' tq ix pg l n) := by
 have v8 : v < 256 := by rw [← hv.out]; exact Ex.m8 H _
 exact (jy a v ha hv.out H).mono fun _ _ ⟨he, hh⟩ => ⟨he, v8, hs.out ▸ hh⟩
theorem JJ (a v : Nat) (s' : Cs) (ha : a < 65536) (hv : v < 256) (hs : Hid (s.wr a v = s')) (H : Hid (Ex W0 w x b s tq ix pg l (n + 1))) :
  CX 59 #[.pointer (some ⟨b, 0, none⟩), .int .u16 (a : Int), .int .u8 (v : Int)] w (.tuple #[]) fun w' => Hid (Ex W0 w' x b s' tq ix pg l n) := by
 exact (Vw a v ha hv H).mono fun _ _ ⟨he, hh⟩ => ⟨he, hs.out ▸ hh⟩
theorem VC (v : Nat) (s' : Cs) (hv : Hid (s.nextV = v)) (hs : Hid (s.next = s')) (H : Hid (Ex W0 w x b s tq ix pg l (n + 1))) :
  CX 19 #[.pointer (some ⟨x, 0, none⟩)] w (.int .u8 (v : Int)) fun w' => v < 256 ∧ Hid (Ex W0 w' x b s' tq ix pg l n) := by
 obtain ⟨s1, hs1⟩ : ∃ x, Hid (s.rd s.r.pc = x) := ⟨_, rfl⟩
 have p8 : s.r.pc < 65536 := H.out.fits.pc
 have p9 : s1.r.pc < 65536 := by rw [← hs1.out]; exact p8
 obtain ⟨q, hq⟩ : ∃ x, Hid (wMove s1.r.pc 1 = x) := ⟨_, rfl⟩
 have q8 : q < 65536 := by rw [← hq.out]; exact Zt _ _
 have es : s1.setPC q = s' := by rw [← hq.out, ← hs1.out, ← hs.out]; rfl
 have v8 : v < 256 := by rw [← hv.out]; exact Ex.m8 H _
 go_enter Tryz.func19, Tryz.ntmps19
 go_upto_region 1 with (first | fail)
 obtain ⟨HF, HG, X, HX, HM⟩ := H.out.hid
 (refine Zk 9 HM (by kernel_rfl) (by kernel_rfl) (by kernel_rfl) ?_; simp only [List.take_succ_cons, List.take_zero, List.drop_succ_cons, List.drop_zero]; (try simp only [Act.put, Ze, Zc, Zd]); repeat ((fail_if_success (with_reducible refine wpQuiet_nil ?_)); first | go_big_quiet_skip | (go_big_quiet_want; first | (refine a17 ?_; go_big_quiet_op; go_big_quiet_on) | (refine a18 ?_; go_big_quiet_op; go_big_quiet_on) | (go_big_quiet_op; go_big_quiet_on) | (go_big_quiet_op; refine ⟨_, fun _ _ => rfl, ?_⟩; go_big_quiet_on))))
 refine wpQuiet_nil ?_
 intro w' HM'
 clear H
 have H := Zb (Ex.made HM'.out HG.out HX.out HF.out)
 clear HM HM' HF HG HX
 go_upto_region 2 with (first | (go_at_call 36; (with_reducible refine (VV s.r.pc v s1 p8 hv hs1 H).mono ?_); clear H; rintro e w' ⟨rfl, _, H⟩) | fail)
 go_wp2_with (first | refine a1 ?_ | (refine a2 ?_; clear H; intro w' H) | (go_at_call 35; (with_reducible refine (Z6 s1.r.pc q p9 hq _).mono ?_); rintro e w' ⟨rfl, rfl⟩) | fail)
 go_ret
 exact ⟨rfl, v8, es ▸ H⟩
theorem Ka (v : Nat) (s' : Cs) (hv : Hid (s.nextV = v)) (hs : Hid (s.fetch = s')) (H : Hid (Ex W0 w x b s tq ix pg l (n + 1))) :
  CX 17 #[.pointer (some ⟨x, 0, none⟩)] w (.int .u8 (v : Int)) fun w' => v < 256 ∧ Hid (Ex W0 w' x b s' tq ix pg l n) := by
 obtain ⟨r1, hr1⟩ : ∃ x, Hid (s.r.tick = x) := ⟨_, rfl⟩
 obtain ⟨s1, hs1⟩ : ∃ x, Hid (s.setR r1 = x) := ⟨_, rfl⟩
 obtain ⟨s2, hs2⟩ : ∃ x, Hid (s1.next = x) := ⟨_, rfl⟩
 have ht := Zb (fun w => JW s.r H.out.fits.r w)
 rw [hr1.out] at ht
 have hf : r1.Fits := by rw [← hr1.out]; exact tick_fits _ H.out.fits
 have hv2 : Hid (s1.nextV = v) := Zb (by rw [← hv.out, ← hs1.out, ← hr1.out]; rfl)
 have es : s2 = s' := by rw [← hs.out, ← hs2.out, ← hs1.out, ← hr1.out]; rfl
 have v8 : v < 256 := by rw [← hv.out]; exact Ex.m8 H _
 go_enter Tryz.func17, Tryz.ntmps17
 go_upto_region 2 with (first | ((with_reducible apply xrY H); exact xrS) | ((with_reducible apply xlY H); exact xlS; clear H; intro w' H) | (go_at_call 16; (with_reducible refine (ht.out _).mono ?_); rintro e w' ⟨rfl, hb⟩; replace H := Zb (H.out.call hb); clear hb) | fail)
 rw [hs1.out] at H
 go_wp2_with (first | (go_at_call 19; (with_reducible refine (VC v s2 hv2 hs2 H).mono ?_); clear H; rintro e w' ⟨rfl, bv, H⟩) | fail)
 go_ret
 exact ⟨rfl, v8, es ▸ H⟩
theorem VD (v : Nat) (s' : Cs) (hv : Hid (s.nextNumV = v)) (hs : Hid (s.nextNum = s')) (H : Hid (Ex W0 w x b s tq ix pg l (n + 2))) :
  CX 84 #[.pointer (some ⟨x, 0, none⟩)] w (.int .i64 (v : Int)) fun w' => v < 65536 ∧ Hid (Ex W0 w' x b s' tq ix pg l n) := by
 obtain ⟨v1, hv1⟩ : ∃ x, Hid (s.nextV = x) := ⟨_, rfl⟩
 obtain ⟨s1, hs1⟩ : ∃ x, Hid (s.next = x) := ⟨_, rfl⟩
 obtain ⟨v2, hv2⟩ : ∃ x, Hid (s1.nextV = x) := ⟨_, rfl⟩
 obtain ⟨s2, hs2⟩ : ∃ x, Hid (s1.next = x) := ⟨_, rfl⟩
 have a1 : v1 < 256 := by rw [← hv1.out]; exact Ex.m8 H _
 have a2 : v2 < 256 := by rw [← hv2.out, ← hs1.out]; exact Ex.m8 H _
 have hj : Hid (v2 * 256 + v1 = v) := Zb (by rw [← hv.out, ← hv2.out, ← hv1.out, ← hs1.out]; rfl)
 have es : s2 = s' := by rw [← hs.out, ← hs2.out, ← hs1.out]; exact Cs.next_two s
 have v8 : v < 65536 := by have := hj.out; omega
 go_enter Tryz.func84, Tryz.ntmps84
 go_wp2_with (first | (go_at_call 19; (with_reducible refine (VC v1 s1 hv1 hs1 H).mono ?_); clear H; rintro e w' ⟨rfl, bv1, H⟩) | (go_at_call 19; (with_reducible refine (VC v2 s2 hv2 hs2 H).mono ?_); clear H; rintro e w' ⟨rfl, bv2, H⟩) | (go_at_call 60; (with_reducible refine (Jd v2 v1 v a2 a1 hj _).mono ?_); rintro e w' ⟨rfl, rfl⟩) | fail)
 go_ret
 exact ⟨rfl, v8, es ▸ H⟩
end
end Go.Proofs.YtgdeeiimkhjfiaaGreatDoor
