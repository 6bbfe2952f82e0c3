import Derived.Test.YtgdeeiimkhjfiaaGreatDoorV29
import Derived.Test.YtgdeeiimkhjfiaaGreatDoorV30
set_option maxRecDepth 100000
set_option maxHeartbeats 6400000
namespace Go.Proofs.YtgdeeiimkhjfiaaGreatDoor
open Go.RowKit
section
variable {W0 w : World} {x b tq n c : Nat} {s : Cs} {ix : Bool} {pg : Int} {l : Zj}
def ccT (k : Nat) : Tx := (rgCond k).data.toList
theorem ZiR (k : Nat) : (⟨(ccT k).toArray⟩ : ByteArray) = rgCond k := by unfold ccT; rfl
theorem ZiS (f k : Nat) (hf : f < 256) (hk : k < 8) (b : Bool) (hb : Hid (ZH f k = b)) (t : Tx) (ht : ccT k = t) (w : World) : CB 98 #[.int .u8 (f : Int), .string ⟨t.toArray⟩] w (.bool b) := by
 rw [← ht, ZiR]; exact ZhF f k hf hk b hb w
theorem cc_some : ∀ k, k < 8 → (ccT k == []) = false := by decide
theorem nmIX : Nm [73, 88] (fun r => r.ix) (fun r v => { r with ix := v }) 65536 := Nm.ofPair 5 (by decide)
theorem nmIY : Nm [73, 89] (fun r => r.iy) (fun r v => { r with iy := v }) 65536 := Nm.ofPair 6 (by decide)
theorem Zdt (v : Nat) (s' : Cs) (hv : v < 65536) (hs : Hid (s.push v = s')) (H : Hid (Ex W0 w x b s tq ix pg l (n + 2))) :
  CX 25 #[.pointer (some ⟨x, 0, none⟩), .int .i64 (v : Int)] w (.tuple #[]) fun w' => Hid (Ex W0 w' x b s' tq ix pg l n) := by
 have h := Vc v hv H
 rw [hs.out] at h
 exact h
theorem xto (a : Nat) (s' : Cs) (ha : a < 65536) (hs : Hid (s.goTo a = s')) (H : Hid (Ex W0 w x b s tq ix pg l n)) :
  CX 27 #[.pointer (some ⟨x, 0, none⟩), .int .i64 (a : Int)] w (.tuple #[]) fun w' => Hid (Ex W0 w' x b s' tq ix pg l n) := by
 have h := yM a ha H
 rw [hs.out] at h
 exact h
theorem yW (z : Nat) (hz : Hid (s.r.pc = z)) (H : Hid (Ex W0 w x b s tq ix pg l n)) :
  CX 26 #[.pointer (some ⟨x, 0, none⟩)] w (.int .i64 (z : Int)) fun w' => Hid (Ex W0 w' x b s tq ix pg l n) := by
 rw [← hz.out]; exact zb H
theorem Zlv (v : Nat) (s1 s2 : Cs) (hv : Hid (s.nextNumV = v)) (hs1 : Hid (s.nextNum = s1)) (hs2 : Hid (s1.setWZ v = s2))  (H : Hid (Ex W0 w x b s tq ix pg l (n + 2))) :
  CX 48 #[.pointer (some ⟨x, 0, none⟩), .string ⟨#[74, 80]⟩, .string ⟨#[110, 110]⟩, .string ⟨#[]⟩] w (.int .i64 10) fun w' => Hid (Ex W0 w' x b (s2.setPC v) tq ix pg l n) := by
 have w0 : s2.r.wz = v := by rw [← hs2.out]
 have es2 := hs2.out
 go_enter Tryz.func48, Tryz.ntmps48
 go_upto_region 12 with (first | (go_at_call 84; (with_reducible refine (VD v s1 hv hs1 H).mono ?_); clear H; rintro e w' ⟨rfl, bv, H⟩) | (refine a2 ?_; clear H; intro w' H) | fail)
 rw [es2] at H
 go_wp2_with (first | refine a1 ?_ | (refine a2 ?_; clear H; intro w' H) | fail)
 go_ret
 (try rw [w0] at H)
 exact ⟨rfl, H⟩
theorem Zlw (f k : Nat) (hf : Hid (s.r.f = f)) (hk : k < 8) (t : Tx) (ht : ccT k = t) (B : Bool) (hB : Hid (ZH f k = B)) (v : Nat) (s1 s2 : Cs) (hv : Hid (s.nextNumV = v)) (hs1 : Hid (s.nextNum = s1)) (hs2 : Hid (s1.setWZ v = s2))  (H : Hid (Ex W0 w x b s tq ix pg l (n + 2))) :
  CX 48 #[.pointer (some ⟨x, 0, none⟩), .string ⟨#[74, 80]⟩, .string ⟨t.toArray⟩, .string ⟨#[110, 110]⟩] w (.int .i64 10) fun w' => Hid (Ex W0 w' x b (cond B (s2.setPC v) s2) tq ix pg l n) := by
 have f8 : f < 256 := by rw [← hf.out]; exact H.out.fits.f
 have hf0 := hf.out
 have t1 : (t == []) = false := by rw [← ht]; exact cc_some k hk
 have w0 : s2.r.wz = v := by rw [← hs2.out]
 have es2 := hs2.out
 cases B
 ·go_enter Tryz.func48, Tryz.ntmps48
  go_upto_region 12 with (first | refine a1 ?_ | (go_at_call 98; (try rw [hf0]); (with_reducible refine (ZiS f k f8 hk _ hB t ht _).mono ?_); rintro e w' ⟨rfl, hb⟩; replace H := Zb (H.out.call hb); clear hb) | (go_at_call 84; (with_reducible refine (VD v s1 hv hs1 H).mono ?_); clear H; rintro e w' ⟨rfl, bv, H⟩) | (refine a2 ?_; clear H; intro w' H) | fail)
  rw [es2] at H
  go_wp2_with (first | refine a1 ?_ | (refine a2 ?_; clear H; intro w' H) | fail)
  go_ret
  exact ⟨rfl, H⟩
 ·go_enter Tryz.func48, Tryz.ntmps48
  go_upto_region 12 with (first | refine a1 ?_ | (go_at_call 98; (try rw [hf0]); (with_reducible refine (ZiS f k f8 hk _ hB t ht _).mono ?_); rintro e w' ⟨rfl, hb⟩; replace H := Zb (H.out.call hb); clear hb) | (go_at_call 84; (with_reducible refine (VD v s1 hv hs1 H).mono ?_); clear H; rintro e w' ⟨rfl, bv, H⟩) | (refine a2 ?_; clear H; intro w' H) | fail)
  rw [es2] at H
  go_wp2_with (first | refine a1 ?_ | (refine a2 ?_; clear H; intro w' H) | fail)
  go_ret
  (try rw [w0] at H)
  exact ⟨rfl, H⟩
theorem Zlx (z : Nat) (hz : Hid (s.r.h * 256 + s.r.l = z)) (H : Hid (Ex W0 w x b s tq ix pg l n)) :
  CX 48 #[.pointer (some ⟨x, 0, none⟩), .string ⟨#[74, 80]⟩, .string ⟨#[40, 72, 76, 41]⟩, .string ⟨#[]⟩] w (.int .i64 4) fun w' => Hid (Ex W0 w' x b (s.setPC z) tq ix pg l n) := by
 have z8 : z < 65536 := by have h := H.out.fits; have := h.h; have := h.l; have := h.ix; have := h.iy; have := hz.out; omega
 go_enter Tryz.func48, Tryz.ntmps48
 go_wp2_with (first | (refine a2 ?_; clear H; intro w' H) | (refine Ym (i := 1) (j := 3) tStr rfl rfl rfl rfl rfl rfl (by decide) (by decide) rfl rfl ?_) | (go_at_call 22; (with_reducible refine (Yq nmHL z hz H).mono ?_); clear H; rintro e w' ⟨rfl, H⟩) | fail)
 go_ret
 exact ⟨rfl, H⟩
theorem Zly (z : Nat) (hz : Hid (s.r.ix = z)) (H : Hid (Ex W0 w x b s tq ix pg l n)) :
  CX 48 #[.pointer (some ⟨x, 0, none⟩), .string ⟨#[74, 80]⟩, .string ⟨#[40, 73, 88, 41]⟩, .string ⟨#[]⟩] w (.int .i64 4) fun w' => Hid (Ex W0 w' x b (s.setPC z) tq ix pg l n) := by
 have z8 : z < 65536 := by have h := H.out.fits; have := h.h; have := h.l; have := h.ix; have := h.iy; have := hz.out; omega
 go_enter Tryz.func48, Tryz.ntmps48
 go_wp2_with (first | (refine a2 ?_; clear H; intro w' H) | (refine Ym (i := 1) (j := 3) tStr rfl rfl rfl rfl rfl rfl (by decide) (by decide) rfl rfl ?_) | (go_at_call 22; (with_reducible refine (Yq nmIX z hz H).mono ?_); clear H; rintro e w' ⟨rfl, H⟩) | fail)
 go_ret
 exact ⟨rfl, H⟩
theorem Zlz (z : Nat) (hz : Hid (s.r.iy = z)) (H : Hid (Ex W0 w x b s tq ix pg l n)) :
  CX 48 #[.pointer (some ⟨x, 0, none⟩), .string ⟨#[74, 80]⟩, .string ⟨#[40, 73, 89, 41]⟩, .string ⟨#[]⟩] w (.int .i64 4) fun w' => Hid (Ex W0 w' x b (s.setPC z) tq ix pg l n) := by
 have z8 : z < 65536 := by have h := H.out.fits; have := h.h; have := h.l; have := h.ix; have := h.iy; have := hz.out; omega
 go_enter Tryz.func48, Tryz.ntmps48
 go_wp2_with (first | (refine a2 ?_; clear H; intro w' H) | (refine Ym (i := 1) (j := 3) tStr rfl rfl rfl rfl rfl rfl (by decide) (by decide) rfl rfl ?_) | (go_at_call 22; (with_reducible refine (Yq nmIY z hz H).mono ?_); clear H; rintro e w' ⟨rfl, H⟩) | fail)
 go_ret
 exact ⟨rfl, H⟩
theorem Zfu (v : Nat) (s1 s2 : Cs) (hv : Hid (s.nextNumV = v)) (hs1 : Hid (s.nextNum = s1)) (hs2 : Hid (s1.setWZ v = s2)) (z : Nat) (hz : Hid (s2.r.pc = z)) (s3 : Cs) (hs3 : Hid (s2.push z = s3))  (H : Hid (Ex W0 w x b s tq ix pg l (n + 4))) :
  CX 48 #[.pointer (some ⟨x, 0, none⟩), .string ⟨#[67, 65, 76, 76]⟩, .string ⟨#[110, 110]⟩, .string ⟨#[]⟩] w (.int .i64 17) fun w' => Hid (Ex W0 w' x b (s3.setPC v) tq ix pg l n) := by
 have w0 : s2.r.wz = v := by rw [← hs2.out]
 have es2 := hs2.out
 have z8 : z < 65536 := by rw [← hz.out, ← hs2.out, ← hs1.out]; show (s.r.pc + 2) % 65536 < 65536; omega
 have w3 : s3.r.wz = v := by rw [← hs3.out, ← hs2.out]; rfl
 go_enter Tryz.func48, Tryz.ntmps48
 go_upto_region 17 with (first | (go_at_call 84; (with_reducible refine (VD v s1 hv hs1 H).mono ?_); clear H; rintro e w' ⟨rfl, bv, H⟩) | (refine a2 ?_; clear H; intro w' H) | fail)
 rw [es2] at H
 go_wp2_with (first | refine a1 ?_ | (refine a2 ?_; clear H; intro w' H) | (go_at_call 26; (with_reducible refine (yW z hz H).mono ?_); clear H; rintro e w' ⟨rfl, H⟩) | (go_at_call 25; (with_reducible refine (Zdt z s3 z8 hs3 H).mono ?_); clear H; rintro e w' ⟨rfl, H⟩) | fail)
 go_ret
 (try rw [w3] at H)
 exact ⟨rfl, H⟩
theorem Zfv (f k : Nat) (hf : Hid (s.r.f = f)) (hk : k < 8) (t : Tx) (ht : ccT k = t) (B : Bool) (hB : Hid (ZH f k = B)) (v : Nat) (s1 s2 : Cs) (hv : Hid (s.nextNumV = v)) (hs1 : Hid (s.nextNum = s1)) (hs2 : Hid (s1.setWZ v = s2)) (z : Nat) (hz : Hid (s2.r.pc = z)) (s3 : Cs) (hs3 : Hid (s2.push z = s3))  (H : Hid (Ex W0 w x b s tq ix pg l (n + 4))) :
  CX 48 #[.pointer (some ⟨x, 0, none⟩), .string ⟨#[67, 65, 76, 76]⟩, .string ⟨t.toArray⟩, .string ⟨#[110, 110]⟩] w (.int .i64 (cond B 17 10)) fun w' => Hid (Ex W0 w' x b (cond B (s3.setPC v) s2) tq ix pg l n) := by
 have f8 : f < 256 := by rw [← hf.out]; exact H.out.fits.f
 have hf0 := hf.out
 have t1 : (t == []) = false := by rw [← ht]; exact cc_some k hk
 have w0 : s2.r.wz = v := by rw [← hs2.out]
 have es2 := hs2.out
 have z8 : z < 65536 := by rw [← hz.out, ← hs2.out, ← hs1.out]; show (s.r.pc + 2) % 65536 < 65536; omega
 have w3 : s3.r.wz = v := by rw [← hs3.out, ← hs2.out]; rfl
 cases B
 ·go_enter Tryz.func48, Tryz.ntmps48
  go_upto_region 17 with (first | refine a1 ?_ | (go_at_call 98; (try rw [hf0]); (with_reducible refine (ZiS f k f8 hk _ hB t ht _).mono ?_); rintro e w' ⟨rfl, hb⟩; replace H := Zb (H.out.call hb); clear hb) | (go_at_call 84; (with_reducible refine (VD v s1 hv hs1 H).mono ?_); clear H; rintro e w' ⟨rfl, bv, H⟩) | (refine a2 ?_; clear H; intro w' H) | fail)
  rw [es2] at H
  go_wp2_with (first | refine a1 ?_ | (refine a2 ?_; clear H; intro w' H) | (go_at_call 26; (with_reducible refine (yW z hz H).mono ?_); clear H; rintro e w' ⟨rfl, H⟩) | (go_at_call 25; (with_reducible refine (Zdt z s3 z8 hs3 H).mono ?_); clear H; rintro e w' ⟨rfl, H⟩) | fail)
  go_ret
  exact ⟨rfl, Zb (H.out.less (by omega))⟩
 ·go_enter Tryz.func48, Tryz.ntmps48
  go_upto_region 17 with (first | refine a1 ?_ | (go_at_call 98; (try rw [hf0]); (with_reducible refine (ZiS f k f8 hk _ hB t ht _).mono ?_); rintro e w' ⟨rfl, hb⟩; replace H := Zb (H.out.call hb); clear hb) | (go_at_call 84; (with_reducible refine (VD v s1 hv hs1 H).mono ?_); clear H; rintro e w' ⟨rfl, bv, H⟩) | (refine a2 ?_; clear H; intro w' H) | fail)
  rw [es2] at H
  go_wp2_with (first | refine a1 ?_ | (refine a2 ?_; clear H; intro w' H) | (go_at_call 26; (with_reducible refine (yW z hz H).mono ?_); clear H; rintro e w' ⟨rfl, H⟩) | (go_at_call 25; (with_reducible refine (Zdt z s3 z8 hs3 H).mono ?_); clear H; rintro e w' ⟨rfl, H⟩) | fail)
  go_ret
  (try rw [w3] at H)
  exact ⟨rfl, H⟩
theorem xjr (d : Nat) (s1 : Cs) (hd : Hid (s.nextV = d)) (hs1 : Hid (s.next = s1)) (q : Nat) (hq : Hid (wMove s1.r.pc d = q)) (s2 : Cs) (hs2 : Hid (s1.goTo q = s2))  (H : Hid (Ex W0 w x b s tq ix pg l (n + 1))) :
  CX 48 #[.pointer (some ⟨x, 0, none⟩), .string ⟨#[74, 82]⟩, .string ⟨#[101]⟩, .string ⟨#[]⟩] w (.int .i64 12) fun w' => Hid (Ex W0 w' x b s2 tq ix pg l n) := by
 have p8 : s1.r.pc < 65536 := by rw [← hs1.out]; exact Zy _
 have q8 : q < 65536 := by rw [← hq.out]; exact Zt _ _
 go_enter Tryz.func48, Tryz.ntmps48
 go_wp2_with (first | refine a1 ?_ | (go_at_call 19; (with_reducible refine (VC d s1 hd hs1 H).mono ?_); clear H; rintro e w' ⟨rfl, bd, H⟩) | (go_at_call 35; (with_reducible refine (JC s1.r.pc d q p8 bd hq _).mono ?_); rintro e w' ⟨rfl, rfl⟩) | (go_at_call 27; (with_reducible refine (xto q s2 q8 hs2 H).mono ?_); clear H; rintro e w' ⟨rfl, H⟩) | fail)
 go_ret
 exact ⟨rfl, H⟩
theorem k22 {P : Prop} (h : P := by
 go_wp2_with (first | (go_at_call 98; (try rw [hf0]); (with_reducible refine (ZiS f k f8 hk _ hB t ht _).mono ?_); rintro e w' ⟨rfl, hb⟩; replace H := Zb (H.out.call hb); clear hb) | refine a1 ?_ | (go_at_call 19; (with_reducible refine (VC d s1 hd hs1 H).mono ?_); clear H; rintro e w' ⟨rfl, bd, H⟩) | (go_at_call 35; (with_reducible refine (JC s1.r.pc d q p8 bd hq _).mono ?_); rintro e w' ⟨rfl, rfl⟩) | (go_at_call 27; (with_reducible refine (xto q s2 q8 hs2 H).mono ?_); clear H; rintro e w' ⟨rfl, H⟩) | fail)
 go_ret
 exact ⟨rfl, H⟩) : P := h
theorem ZlA (f k : Nat) (hf : Hid (s.r.f = f)) (hk : k < 8) (t : Tx) (ht : ccT k = t) (B : Bool) (hB : Hid (ZH f k = B)) (d : Nat) (s1 : Cs) (hd : Hid (s.nextV = d)) (hs1 : Hid (s.next = s1)) (q : Nat) (hq : Hid (wMove s1.r.pc d = q)) (s2 : Cs) (hs2 : Hid (s1.goTo q = s2))  (H : Hid (Ex W0 w x b s tq ix pg l (n + 1))) :
  CX 48 #[.pointer (some ⟨x, 0, none⟩), .string ⟨#[74, 82]⟩, .string ⟨t.toArray⟩, .string ⟨#[101]⟩] w (.int .i64 (cond B 12 7)) fun w' => Hid (Ex W0 w' x b (cond B s2 s1) tq ix pg l n) := by
 have f8 : f < 256 := by rw [← hf.out]; exact H.out.fits.f
 have hf0 := hf.out
 have t1 : (t == []) = false := by rw [← ht]; exact cc_some k hk
 have p8 : s1.r.pc < 65536 := by rw [← hs1.out]; exact Zy _
 have q8 : q < 65536 := by rw [← hq.out]; exact Zt _ _
 cases B
 ·go_enter Tryz.func48, Tryz.ntmps48
  exact k22
 ·go_enter Tryz.func48, Tryz.ntmps48
  exact k22
theorem k17 {P : Prop} (h : P := by
 go_enter Tryz.func48, Tryz.ntmps48
 go_upto_region 27 with (first | refine a1 ?_ | (go_at_call 22; (with_reducible refine (Yq nmB y hy H).mono ?_); clear H; rintro e w' ⟨rfl, H⟩) | (go_at_call 49; (with_reducible refine (Z1 nmB n0 n8 r0 hr0 H).mono ?_); clear H; rintro e w' ⟨rfl, H⟩) | fail)
 rw [es0] at H
 go_wp2_with (first | refine a1 ?_ | (go_at_call 19; (with_reducible refine (VC d s1 hd hs1 H).mono ?_); clear H; rintro e w' ⟨rfl, bd, H⟩) | (go_at_call 35; (with_reducible refine (JC s1.r.pc d q p8 bd hq _).mono ?_); rintro e w' ⟨rfl, rfl⟩) | (go_at_call 27; (with_reducible refine (xto q s2 q8 hs2 H).mono ?_); clear H; rintro e w' ⟨rfl, H⟩) | fail)
 go_ret
 exact ⟨rfl, H⟩) : P := h
theorem xdjnz (y n0 : Nat) (hy : Hid (s.r.b = y)) (hn : Hid ((y + 255) % 256 = n0)) (s0 : Cs) (hs0 : Hid (s.setB n0 = s0)) (d : Nat) (s1 : Cs) (hd : Hid (s0.nextV = d)) (hs1 : Hid (s0.next = s1)) (q : Nat) (hq : Hid (wMove s1.r.pc d = q)) (s2 : Cs) (hs2 : Hid (s1.goTo q = s2)) (B : Bool) (hB : decide (n0 ≠ 0) = B) (H : Hid (Ex W0 w x b s tq ix pg l (n + 1))) :
  CX 48 #[.pointer (some ⟨x, 0, none⟩), .string ⟨#[68, 74, 78, 90]⟩, .string ⟨#[101]⟩, .string ⟨#[]⟩] w (.int .i64 (cond B 13 8)) fun w' => Hid (Ex W0 w' x b (cond B s2 s1) tq ix pg l n) := by
 have p8 : s1.r.pc < 65536 := by rw [← hs1.out]; exact Zy _
 have q8 : q < 65536 := by rw [← hq.out]; exact Zt _ _
 have y8 : y < 256 := by rw [← hy.out]; exact H.out.fits.b
 have n8 : n0 < 256 := by have := hn.out; omega
 have e1 : ((y : Int) + 255).tmod 256 = (n0 : Int) := by rw [Int.tmod_eq_emod_of_nonneg (by omega)]; have := hn.out; omega
 obtain ⟨r0, hr0⟩ : ∃ r, Hid (({ s.r with b := n0 } : Rg) = r) := ⟨_, rfl⟩
 have es0 : s.setR r0 = s0 := by rw [← hs0.out, ← hr0.out]
 have b0 : s0.r.b = n0 := by rw [← hs0.out]
 cases B
 ·have g1 : decide (0 < n0) = false := decide_eq_false (by have := of_decide_eq_false hB; omega)
  have g2 : decide (0 < (n0 : Int)) = false := decide_eq_false (by have := of_decide_eq_false hB; omega)
  exact k17
 ·have g1 : decide (0 < n0) = true := decide_eq_true (by have := of_decide_eq_true hB; omega)
  have g2 : decide (0 < (n0 : Int)) = true := decide_eq_true (by have := of_decide_eq_true hB; omega)
  exact k17
theorem xret (v : Nat) (s1 s2 : Cs) (hv : Hid (s.popV = v)) (hs1 : Hid (s.pop = s1)) (hs2 : Hid (s1.goTo v = s2))  (H : Hid (Ex W0 w x b s tq ix pg l (n + 2))) :
  CX 48 #[.pointer (some ⟨x, 0, none⟩), .string ⟨#[82, 69, 84]⟩, .string ⟨#[]⟩, .string ⟨#[]⟩] w (.int .i64 10) fun w' => Hid (Ex W0 w' x b s2 tq ix pg l n) := by
 go_enter Tryz.func48, Tryz.ntmps48
 go_wp2_with (first | (go_at_call 50; (with_reducible refine (Zke v s1 hv hs1 H).mono ?_); clear H; rintro e w' ⟨rfl, bv, H⟩) | (go_at_call 27; (with_reducible refine (xto v s2 bv hs2 H).mono ?_); clear H; rintro e w' ⟨rfl, H⟩) | fail)
 go_ret
 exact ⟨rfl, H⟩
theorem ZiT (f k : Nat) (hf : Hid (s.r.f = f)) (hk : k < 8) (t : Tx) (ht : ccT k = t) (B : Bool) (hB : Hid (ZH f k = B)) (v : Nat) (s1 s2 : Cs) (hv : Hid (s.popV = v)) (hs1 : Hid (s.pop = s1)) (hs2 : Hid (s1.goTo v = s2))  (H : Hid (Ex W0 w x b s tq ix pg l (n + 2))) :
  CX 48 #[.pointer (some ⟨x, 0, none⟩), .string ⟨#[82, 69, 84]⟩, .string ⟨t.toArray⟩, .string ⟨#[]⟩] w (.int .i64 (cond B 11 5)) fun w' => Hid (Ex W0 w' x b (cond B s2 s) tq ix pg l n) := by
 have f8 : f < 256 := by rw [← hf.out]; exact H.out.fits.f
 have hf0 := hf.out
 have t1 : (t == []) = false := by rw [← ht]; exact cc_some k hk
 cases B
 ·go_enter Tryz.func48, Tryz.ntmps48
  go_wp2_with (first | refine a1 ?_ | (go_at_call 98; (try rw [hf0]); (with_reducible refine (ZiS f k f8 hk _ hB t ht _).mono ?_); rintro e w' ⟨rfl, hb⟩; replace H := Zb (H.out.call hb); clear hb) | (go_at_call 50; (with_reducible refine (Zke v s1 hv hs1 H).mono ?_); clear H; rintro e w' ⟨rfl, bv, H⟩) | (go_at_call 27; (with_reducible refine (xto v s2 bv hs2 H).mono ?_); clear H; rintro e w' ⟨rfl, H⟩) | fail)
  go_ret
  exact ⟨rfl, Zb (H.out.less (by omega))⟩
 ·go_enter Tryz.func48, Tryz.ntmps48
  go_wp2_with (first | refine a1 ?_ | (go_at_call 98; (try rw [hf0]); (with_reducible refine (ZiS f k f8 hk _ hB t ht _).mono ?_); rintro e w' ⟨rfl, hb⟩; replace H := Zb (H.out.call hb); clear hb) | (go_at_call 50; (with_reducible refine (Zke v s1 hv hs1 H).mono ?_); clear H; rintro e w' ⟨rfl, bv, H⟩) | (go_at_call 27; (with_reducible refine (xto v s2 bv hs2 H).mono ?_); clear H; rintro e w' ⟨rfl, H⟩) | fail)
  go_ret
  exact ⟨rfl, H⟩
theorem xretn (v : Nat) (s1 s2 : Cs) (hv : Hid (s.popV = v)) (hs1 : Hid (s.pop = s1)) (hs2 : Hid (s1.goTo v = s2)) (y : Bool) (hy : Hid (s2.r.q2 = y)) (H : Hid (Ex W0 w x b s tq ix pg l (n + 2))) :
  CX 48 #[.pointer (some ⟨x, 0, none⟩), .string ⟨#[82, 69, 84, 78]⟩, .string ⟨#[]⟩, .string ⟨#[]⟩] w (.int .i64 14) fun w' => Hid (Ex W0 w' x b (s2.setQ1 y) tq ix pg l n) := by
 have y0 := hy.out
 go_enter Tryz.func48, Tryz.ntmps48
 go_wp2_with (first | refine a1 ?_ | (refine a2 ?_; clear H; intro w' H) | (go_at_call 50; (with_reducible refine (Zke v s1 hv hs1 H).mono ?_); clear H; rintro e w' ⟨rfl, bv, H⟩) | (go_at_call 27; (with_reducible refine (xto v s2 bv hs2 H).mono ?_); clear H; rintro e w' ⟨rfl, H⟩) | fail)
 go_ret
 (try rw [y0] at H)
 exact ⟨rfl, H⟩
theorem xreti (v : Nat) (s1 s2 : Cs) (hv : Hid (s.popV = v)) (hs1 : Hid (s.pop = s1)) (hs2 : Hid (s1.goTo v = s2)) (y : Bool) (hy : Hid (s2.r.q2 = y)) (H : Hid (Ex W0 w x b s tq ix pg l (n + 2))) :
  CX 48 #[.pointer (some ⟨x, 0, none⟩), .string ⟨#[82, 69, 84, 73]⟩, .string ⟨#[]⟩, .string ⟨#[]⟩] w (.int .i64 14) fun w' => Hid (Ex W0 w' x b (s2.setQ1 y) tq ix pg l n) := by
 have y0 := hy.out
 go_enter Tryz.func48, Tryz.ntmps48
 go_wp2_with (first | refine a1 ?_ | (refine a2 ?_; clear H; intro w' H) | (go_at_call 50; (with_reducible refine (Zke v s1 hv hs1 H).mono ?_); clear H; rintro e w' ⟨rfl, bv, H⟩) | (go_at_call 27; (with_reducible refine (xto v s2 bv hs2 H).mono ?_); clear H; rintro e w' ⟨rfl, H⟩) | fail)
 go_ret
 (try rw [y0] at H)
 exact ⟨rfl, H⟩
def decV (t : Tx) : Nat → Nat
 | 0 => 0
 | k + 1 => 10 * decV t k + ((t.getD k 0).toNat - 48)
theorem xrst (t : Tx) (hl : t.length ≤ 2) (hd : ∀ i, i < t.length → 48 ≤ (t.getD i 0).toNat ∧ (t.getD i 0).toNat ≤ 57) (a : Nat) (ha : Hid (decV t t.length = a)) (z : Nat) (hz : Hid (s.r.pc = z)) (s1 s2 : Cs) (hs1 : Hid (s.push z = s1)) (hs2 : Hid (s1.goTo a = s2)) (H : Hid (Ex W0 w x b s tq ix pg l (n + 2))) :
  CX 48 #[.pointer (some ⟨x, 0, none⟩), .string ⟨#[82, 83, 84]⟩, .string ⟨t.toArray⟩, .string ⟨#[]⟩] w (.int .i64 11) fun w' => Hid (Ex W0 w' x b s2 tq ix pg l n) := by
 have z8 : z < 65536 := by rw [← hz.out]; exact H.out.fits.pc
 have dv : ∀ k, k ≤ t.length → decV t k ≤ 99 ∧ (k ≤ 1 → decV t k ≤ 9) := by
  intro k hk
  obtain rfl | rfl | rfl : k = 0 ∨ k = 1 ∨ k = 2 := by omega
  ·exact ⟨Nat.zero_le _, fun _ => Nat.zero_le _⟩
  ·have := hd 0 (by omega)
   have e : decV t 1 = 10 * 0 + ((t.getD 0 0).toNat - 48) := rfl
   exact ⟨by omega, fun _ => by omega⟩
  ·have h0 := hd 0 (by omega)
   have h1 := hd 1 (by omega)
   have e : decV t 2 = 10 * (10 * 0 + ((t.getD 0 0).toNat - 48)) + ((t.getD 1 0).toNat - 48) := rfl
   exact ⟨by omega, fun h => by omega⟩
 have a8 : a < 65536 := by rw [← ha.out]; have := (dv t.length (Nat.le_refl _)).1; omega
 have HD := Zb hd
 have HV := Zb dv
 obtain ⟨L, hL⟩ : ∃ L, Hid (t.length = L) := ⟨_, rfl⟩
 clear hd dv
 go_enter Tryz.func48, Tryz.ntmps48
 go_upto_region 38 with (first | (go_at_call 26; (with_reducible refine (yW z hz H).mono ?_); clear H; rintro e w' ⟨rfl, H⟩) | (go_at_call 25; (with_reducible refine (Zdt z s1 z8 hs1 H).mono ?_); clear H; rintro e w' ⟨rfl, H⟩) | fail)
 go_loopw [14, 15] (fun m i wr => ∃ k : Nat, k ≤ t.length ∧ i = .int .i64 (k : Int) ∧ m = .int .i64 ((decV t k : Nat) : Int) ∧ Hid (Ex W0 wr x b s1 tq ix pg l n)) (fun _ i _ => t.length - (intOf i).toNat)
 case atStart => exact ⟨0, by omega, rfl, rfl, H⟩
 case round =>
  clear H
  obtain ⟨k, hk, rfl, rfl, H⟩ := hrel
  by_cases hlt : k < t.length
  ·have hlt' : (k : Int) < (t.length : Int) := by omega
   obtain ⟨c, hc⟩ : ∃ c, t.getD k 0 = c := ⟨_, rfl⟩
   have HC := Zb hc
   have hd := HD.out k hlt
   obtain ⟨y, hy⟩ : ∃ y, c.toNat = y := ⟨_, rfl⟩
   have HY := Zb hy
   rw [hc, hy] at hd
   obtain ⟨m, hm⟩ : ∃ m, decV t k = m := ⟨_, rfl⟩
   have hm9 := (HV.out k hk).1
   have e0 : decV t (k + 1) = 10 * m + (y - 48) := by rw [← hm, ← hy, ← hc]; rfl
   have HE := Zb e0
   rw [hm] at hm9 ⊢
   have e1 : IntKind.u8.wrap ((y : Int) - 48) = ((y - 48 : Nat) : Int) := by rw [IntKind.wrap_u8]; omega
   obtain ⟨q, hq⟩ : ∃ q, y - 48 = q := ⟨_, rfl⟩
   have HQ2 := Zb hq
   rw [hq] at e1
   have q9 : q ≤ 9 := by omega
   clear hc hy hm hq e0
   go_wp2_with (first | (refine J6 (s := t) (k := k) tStr rfl rfl rfl hlt rfl ?_; rw [HC.out, HY.out]) | fail)
   go_roundw
   case rel => exact ⟨k + 1, by omega, by go_num, by rw [HE.out, HQ2.out]; go_num, H⟩
   case measure => simp [intOf]; omega
  ·obtain rfl : k = t.length := by omega
   have ha0 := ha.out
   rw [ha0]
   go_wp2_with (first | (go_at_call 27; (with_reducible refine (xto a s2 a8 hs2 H).mono ?_); clear H; rintro e w' ⟨rfl, H⟩))
   go_ret
   exact ⟨rfl, H⟩
theorem xexx (r : Rg) (hr : Hid (s.r.swap true = r)) (H : Hid (Ex W0 w x b s tq ix pg l n)) :
  CX 51 #[.pointer (some ⟨x, 0, none⟩), .string ⟨#[69, 88, 88]⟩, .string ⟨#[]⟩, .string ⟨#[]⟩] w (.int .i64 4) fun w' => Hid (Ex W0 w' x b (s.setR r) tq ix pg l n) := by
 have hg := Zb (fun w => ZaS s.r H.out.fits w)
 rw [hr.out] at hg
 have hf : r.Fits := by rw [← hr.out]; exact Rg.swap_fits H.out.fits _
 go_enter Tryz.func51, Tryz.ntmps51
 go_wp2_with (first | ((with_reducible apply xrY H); exact xrS) | ((with_reducible apply xlY H); exact xlS; clear H; intro w' H) | (go_at_call 100; (with_reducible refine (hg.out _).mono ?_); rintro e w' ⟨rfl, hb⟩; replace H := Zb (H.out.call hb); clear hb) | fail)
 go_ret
 exact ⟨rfl, H⟩
theorem xexaf (r : Rg) (hr : Hid (s.r.swap false = r)) (H : Hid (Ex W0 w x b s tq ix pg l n)) :
  CX 51 #[.pointer (some ⟨x, 0, none⟩), .string ⟨#[69, 88]⟩, .string ⟨#[65, 70]⟩, .string ⟨#[65, 70, 39]⟩] w (.int .i64 4) fun w' => Hid (Ex W0 w' x b (s.setR r) tq ix pg l n) := by
 have hg := Zb (fun w => jM s.r H.out.fits w)
 rw [hr.out] at hg
 have hf : r.Fits := by rw [← hr.out]; exact Rg.swap_fits H.out.fits _
 go_enter Tryz.func51, Tryz.ntmps51
 go_wp2_with (first | ((with_reducible apply xrY H); exact xrS) | ((with_reducible apply xlY H); exact xlS; clear H; intro w' H) | (go_at_call 100; (with_reducible refine (hg.out _).mono ?_); rintro e w' ⟨rfl, hb⟩; replace H := Zb (H.out.call hb); clear hb) | fail)
 go_ret
 exact ⟨rfl, H⟩
theorem xexde (z v : Nat) (hz : Hid (s.r.d * 256 + s.r.e = z)) (hv : Hid (s.r.h * 256 + s.r.l = v)) (r1 : Rg) (hr1 : Hid (({ s.r with d := v / 256, e := v % 256 } : Rg) = r1)) (r2 : Rg) (hr2 : Hid (({ r1 with h := z / 256, l := z % 256 } : Rg) = r2)) (H : Hid (Ex W0 w x b s tq ix pg l n)) :
  CX 51 #[.pointer (some ⟨x, 0, none⟩), .string ⟨#[69, 88]⟩, .string ⟨#[68, 69]⟩, .string ⟨#[72, 76]⟩] w (.int .i64 4) fun w' => Hid (Ex W0 w' x b (s.setR r2) tq ix pg l n) := by
 have z8 : z < 65536 := by have h := H.out.fits; have := h.d; have := h.e; have := hz.out; omega
 have v8 : v < 65536 := by have h := H.out.fits; have := h.h; have := h.l; have := hv.out; omega
 have hr2' : Hid (({ (s.setR r1).r with h := z / 256, l := z % 256 } : Rg) = r2) := hr2
 go_enter Tryz.func51, Tryz.ntmps51
 go_wp2_with (first | (go_at_call 22; (with_reducible refine (Yq nmDE z hz H).mono ?_); clear H; rintro e w' ⟨rfl, H⟩) | (go_at_call 22; (with_reducible refine (Yq nmHL v hv H).mono ?_); clear H; rintro e w' ⟨rfl, H⟩) | (go_at_call 49; (with_reducible refine (Z1 nmDE v v8 r1 hr1 H).mono ?_); clear H; rintro e w' ⟨rfl, H⟩) | (go_at_call 49; (with_reducible refine (Z1 nmHL z z8 r2 hr2' H).mono ?_); clear H; rintro e w' ⟨rfl, H⟩) | fail)
 go_ret
 exact ⟨rfl, H⟩
theorem xexsp {u : Tx} {g2 : Rg → Nat} {st2 : Rg → Nat → Rg} (hN : Nm u g2 st2 65536) (v z : Nat) (s1 s2 : Cs) (hv : Hid (s.popV = v)) (hs1 : Hid (s.num s.r.sp = s1)) (hz : Hid (g2 s1.r = z)) (hs2 : Hid (s1.setNum s.r.sp z = s2)) (r : Rg) (hr : Hid (st2 s2.r v = r)) (H : Hid (Ex W0 w x b s tq ix pg l (n + 4))) :
  CX 51 #[.pointer (some ⟨x, 0, none⟩), .string ⟨#[69, 88]⟩, .string ⟨#[40, 83, 80, 41]⟩, .string ⟨u.toArray⟩] w (.int .i64 19) fun w' => Hid (Ex W0 w' x b ((s2.setR r).setWZ v) tq ix pg l n) := by
 obtain ⟨p, hp⟩ : ∃ x, Hid (s.r.sp = x) := ⟨_, rfl⟩
 have p8 : p < 65536 := by rw [← hp.out]; exact H.out.fits.sp
 have hv2 : Hid (s.numV p = v) := Zb (by rw [← hp.out]; exact hv.out)
 have hs12 : Hid (s.num p = s1) := Zb (by rw [← hp.out]; exact hs1.out)
 have hp2 : Hid (s1.r.sp = p) := Zb (by rw [← hs1.out, ← hp.out]; rfl)
 have hs22 : Hid (s1.setNum p z = s2) := Zb (by rw [← hp.out]; exact hs2.out)
 have z8 : z < 65536 := by rw [← hz.out, ← hs1.out]; exact hN.lt _ H.out.fits
 go_enter Tryz.func51, Tryz.ntmps51
 go_upto_region 2 with (first | (go_at_call 22; (with_reducible refine (Yq nmSP p hp H).mono ?_); clear H; rintro e w' ⟨rfl, H⟩) | (go_at_call 28; (with_reducible refine (ZiH p v s1 p8 hv2 hs12 H).mono ?_); clear H; rintro e w' ⟨rfl, bv, H⟩) | fail)
 go_wp2_with (first | (refine a2 ?_; clear H; intro w' H) | (go_at_call 22; (with_reducible refine (Yq nmSP p hp2 H).mono ?_); clear H; rintro e w' ⟨rfl, H⟩) | (go_at_call 22; (with_reducible refine (Yq hN z hz H).mono ?_); clear H; rintro e w' ⟨rfl, H⟩) | (go_at_call 101; (with_reducible refine (ZgJ p z s2 p8 z8 hs22 H).mono ?_); clear H; rintro e w' ⟨rfl, H⟩) | (go_at_call 49; (with_reducible refine (Z1 hN v bv r hr H).mono ?_); clear H; rintro e w' ⟨rfl, H⟩) | fail)
 go_ret
 exact ⟨rfl, H⟩
def Wb (on : Nat → Bool) (a b : Nat) : Nat → Nat
 | 0 => 0
 | k + 1 => Nat.add (Nat.mul 2 (Wb on a b k)) (cond (on (Nat.add (Nat.mod (Nat.div a (Nat.pow 2 (Nat.sub 7 k))) 2) (Nat.mod (Nat.div b (Nat.pow 2 (Nat.sub 7 k))) 2))) 1 0)
theorem Zdu (on : Nat → Bool) (a b k : Nat) : Wb on a b k < 2 ^ k := by
 induction k with
 | zero => simp [Wb]
 | succ k ih =>
  have e : Wb on a b (k + 1) = 2 * Wb on a b k + (cond (on (a / 2 ^ (7 - k) % 2 + b / 2 ^ (7 - k) % 2)) 1 0) := rfl
  rw [e, Nat.pow_succ]
  cases on (a / 2 ^ (7 - k) % 2 + b / 2 ^ (7 - k) % 2) <;> simp <;> omega
def on4 (x : Nat) : Bool := Nat.beq x 2
def on5 (x : Nat) : Bool := Nat.beq x 1
def on6 (x : Nat) : Bool := Nat.ble 1 x
theorem log4 (a b : Nat) (ha : a < 256) (hb : b < 256) : Wb on4 a b 8 = a &&& b :=
 Nat.eq_of_beq_eq_true (Yb (p := fun a b => Nat.beq (Wb on4 a b 8) (Nat.land a b)) (by decide +kernel) a b ha hb)
theorem log5 (a b : Nat) (ha : a < 256) (hb : b < 256) : Wb on5 a b 8 = a ^^^ b :=
 Nat.eq_of_beq_eq_true (Yb (p := fun a b => Nat.beq (Wb on5 a b 8) (Nat.xor a b)) (by decide +kernel) a b ha hb)
theorem log6 (a b : Nat) (ha : a < 256) (hb : b < 256) : Wb on6 a b 8 = a ||| b :=
 Nat.eq_of_beq_eq_true (Yb (p := fun a b => Nat.beq (Wb on6 a b 8) (Nat.lor a b)) (by decide +kernel) a b ha hb)
theorem yX (a b f k v g : Nat) (ha : a < 65536) (hb : b < 65536) (hf : f < 256) (hk : Hid (f % 2 = k)) (hv : Hid (Yu a b k = v)) (hg : Hid (JX a b k = g)) (w : World) :
  CB 95 #[.int .u16 (a : Int), .int .u16 (b : Int), .int .u8 (f : Int)] w (.tuple #[.int .u16 (v : Int), .int .u8 (g : Int)]) := by
 have HM := Zb (Own.start w)
 have k1 : k ≤ 1 := by have := hk.out; omega
 have hf1 : (f : Int).tmod 2 = (k : Int) := by
  rw [Int.tmod_eq_emod_of_nonneg (by omega)]
  have := hk.out
  omega
 have v1 : v < 65536 := by rw [← hv.out]; exact Ys _ _ _
 obtain ⟨s, z, y, x, hs⟩ : ∃ s z y x, Hid (nS (Zx v) = s ∧ nZ v = z ∧ Zf 32 (Zx v) = y ∧ Zf 8 (Zx v) = x) := ⟨_, _, _, _, rfl, rfl, rfl, rfl⟩
 have hkey := Zdl a b k v g s z y x ha hb k1 hv.out hg.out hs.out
 have HN : Hid (((a : Int) + (b : Int) + (k : Int)) % 65536 = (v : Int)) := by
  have h : (a + b + k) % 65536 = v := hv.out
  show _ = _
  omega
 have h12a : (a : Int).tmod 4096 = (a : Int) % 4096 := Int.tmod_eq_emod_of_nonneg (by omega)
 have h12b : (b : Int).tmod 4096 = (b : Int) % 4096 := Int.tmod_eq_emod_of_nonneg (by omega)
 obtain ⟨p, hp⟩ : ∃ p, Hid (ZW a = p) := ⟨_, rfl⟩
 obtain ⟨q, hq⟩ : ∃ q, Hid (ZW b = q) := ⟨_, rfl⟩
 have pb := JD a ha
 have qb := JD b hb
 rw [hp.out] at pb hkey
 rw [hq.out] at qb hkey
 have HK : Hid (∀ H P C : Bool, (H = true ↔ (4095 : Int) < (a : Int) % 4096 + (b : Int) % 4096 + k) → (P = true ↔ (p + q + k < -32768 ∨ 32767 < p + q + k)) → (C = true ↔ (65535 : Int) < (a : Int) + b + k) → Hid (Zq s z y H x P false C = g)) :=
  fun H P C hH hP hC => hkey H P C hH hP hC
 clear hv hg hkey hk
 go_enter Tryz.func95, Tryz.ntmps95
 go_wp2_with (first | (refine b7 ?_; clear HM; intro w' g' HM) | refine b8 ?_ | (refine a12 ?_; clear HM; intro w' HM) | (go_at_call 77; (with_reducible refine (J9 _ v HN _).mono ?_); rintro e w' ⟨rfl, rfl⟩) | (go_at_call 166; first | ((with_reducible refine (JE a ha p hp _).mono ?_); rintro e w' ⟨rfl, rfl⟩) | ((with_reducible refine (JE b hb q hq _).mono ?_); rintro e w' ⟨rfl, rfl⟩)) | (go_at_call 165; (with_reducible refine (VB v s z y x v1 hs _).mono ?_); rintro e w' ⟨rfl, hb⟩; replace HM := Zb (HM.out.call hb); clear hb) | (go_at_call 86; refine (Zs _ _ _ _ _ _ _ _ g (HK.out _ _ _ (by first | (simp; done) | (simp; omega)) (by first | (simp; done) | (simp; omega)) (by first | (simp; done) | (simp; omega))) _).mono ?_; rintro e w' ⟨rfl, hb⟩; replace HM := Zb (HM.out.call hb); clear hb))
 all_goals
  go_ret2
  exact ⟨VA rfl rfl, Own.fin HM⟩
theorem yY (a b f k v g : Nat) (ha : a < 65536) (hb : b < 65536) (hf : f < 256) (hk : Hid (f % 2 = k)) (hv : Hid (Jg a b k = v)) (hg : Hid (Vl a b k = g)) (w : World) :
  CB 96 #[.int .u16 (a : Int), .int .u16 (b : Int), .int .u8 (f : Int)] w (.tuple #[.int .u16 (v : Int), .int .u8 (g : Int)]) := by
 have HM := Zb (Own.start w)
 have k1 : k ≤ 1 := by have := hk.out; omega
 have hf1 : (f : Int).tmod 2 = (k : Int) := by
  rw [Int.tmod_eq_emod_of_nonneg (by omega)]
  have := hk.out
  omega
 have v1 : v < 65536 := by rw [← hv.out]; exact Us _ _ _
 obtain ⟨s, z, y, x, hs⟩ : ∃ s z y x, Hid (nS (Zx v) = s ∧ nZ v = z ∧ Zf 32 (Zx v) = y ∧ Zf 8 (Zx v) = x) := ⟨_, _, _, _, rfl, rfl, rfl, rfl⟩
 have hkey := Zdm a b k v g s z y x ha hb k1 hv.out hg.out hs.out
 have HN : Hid (((a : Int) - (b : Int) - (k : Int)) % 65536 = (v : Int)) := by
  have h : (a + 131072 - (b + k)) % 65536 = v := hv.out
  show _ = _
  omega
 have h12a : (a : Int).tmod 4096 = (a : Int) % 4096 := Int.tmod_eq_emod_of_nonneg (by omega)
 have h12b : (b : Int).tmod 4096 = (b : Int) % 4096 := Int.tmod_eq_emod_of_nonneg (by omega)
 obtain ⟨p, hp⟩ : ∃ p, Hid (ZW a = p) := ⟨_, rfl⟩
 obtain ⟨q, hq⟩ : ∃ q, Hid (ZW b = q) := ⟨_, rfl⟩
 have pb := JD a ha
 have qb := JD b hb
 rw [hp.out] at pb hkey
 rw [hq.out] at qb hkey
 have HK : Hid (∀ H P C : Bool, (H = true ↔ (a : Int) % 4096 - (b : Int) % 4096 - k < 0) → (P = true ↔ (p - q - k < -32768 ∨ 32767 < p - q - k)) → (C = true ↔ (a : Int) - b - k < 0) → Hid (Zq s z y H x P true C = g)) :=
  fun H P C hH hP hC => hkey H P C hH hP hC
 clear hv hg hkey hk
 go_enter Tryz.func96, Tryz.ntmps96
 go_wp2_with (first | (refine b7 ?_; clear HM; intro w' g' HM) | refine b8 ?_ | (refine a12 ?_; clear HM; intro w' HM) | (go_at_call 77; (with_reducible refine (J9 _ v HN _).mono ?_); rintro e w' ⟨rfl, rfl⟩) | (go_at_call 166; first | ((with_reducible refine (JE a ha p hp _).mono ?_); rintro e w' ⟨rfl, rfl⟩) | ((with_reducible refine (JE b hb q hq _).mono ?_); rintro e w' ⟨rfl, rfl⟩)) | (go_at_call 165; (with_reducible refine (VB v s z y x v1 hs _).mono ?_); rintro e w' ⟨rfl, hb⟩; replace HM := Zb (HM.out.call hb); clear hb) | (go_at_call 86; refine (Zs _ _ _ _ _ _ _ _ g (HK.out _ _ _ (by first | (simp; done) | (simp; omega)) (by first | (simp; done) | (simp; omega)) (by first | (simp; done) | (simp; omega))) _).mono ?_; rintro e w' ⟨rfl, hb⟩; replace HM := Zb (HM.out.call hb); clear hb))
 all_goals
  go_ret2
  exact ⟨VA rfl rfl, Own.fin HM⟩
end
end Go.Proofs.YtgdeeiimkhjfiaaGreatDoor
