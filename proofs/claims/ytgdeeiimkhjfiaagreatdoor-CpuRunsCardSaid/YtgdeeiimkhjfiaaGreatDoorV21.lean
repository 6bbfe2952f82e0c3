import Derived.Test.YtgdeeiimkhjfiaaGreatDoorV20
set_option maxRecDepth 100000
set_option maxHeartbeats 6400000
namespace Go.Proofs.YtgdeeiimkhjfiaaGreatDoor
open Go.RowKit
section
variable {W0 w : World} {x b tq n c : Nat} {s : Cs} {ix : Bool} {pg : Int} {l : Zj}
theorem ZZ (r : Rg) (p b : Nat) (u : U) (w : World) : (Instr.build 58 #[(0, r.v), (1, .pointer (some ⟨b, 0, none⟩))]).run Tryz.prog w = .ok (.agg (xc ⟨r, p, u⟩ b 0 false 0).toArray) w := by
 exact k58
theorem Rg.tick_fits' {r : Rg} (h : r.Fits) : r.tick.Fits := { h with r := by show r.r / 128 * 128 + (r.r % 128 + 1) % 128 < 256; have := h.r; omega }
theorem Cs.wake_as (s : Cs) : ((s.tick).setHT false).setQ1 false = (s.setQ1 false).wake := rfl
theorem Cs.wake_q2 (s : Cs) : (s.setQ1 false).wake.setQ2 false = ((s.setQ1 false).setQ2 false).wake := rfl
theorem Cs.push_eq (s : Cs) (z d q : Nat) (hd : dn1 s.r.sp = d) (hq : dn1 d = q) : s.push z = (((s.setSP d).wr d (Zx z)).setSP q).wr q (z % 256) := by unfold Cs.push; rw [hd, hq]
theorem Cs.push_q2 (s : Cs) (z : Nat) : (s.push z).setQ2 false = (s.setQ2 false).push z := by
 obtain ⟨d, hd⟩ : ∃ d, dn1 s.r.sp = d := ⟨_, rfl⟩
 obtain ⟨q, hq⟩ : ∃ q, dn1 d = q := ⟨_, rfl⟩
 have hd' : dn1 (s.setQ2 false).r.sp = d := hd
 rw [Cs.push_eq s z d q hd hq, Cs.push_eq (s.setQ2 false) z d q hd' hq]
theorem Cs.goTo_num (s : Cs) (c a r : Nat) : ((s.goTo c).num a).goTo r = (s.num a).goTo r := rfl
section
variable {W0 w : World} {x b tq n : Nat} {s : Cs} {ix : Bool} {pg : Int} {l : Zj}
theorem UP (z : Nat) (hz : s.r.pc = z) (h : Hid (Ex W0 w x b (s) tq ix pg l n)) : CX 26 #[.pointer (some ⟨x, 0, none⟩)] w (.int .i64 (z : Int)) fun w' => Hid (Ex W0 w' x b (s) tq ix pg l n) := by
 subst hz; exact zb h
theorem Zid (h : Hid (Ex W0 w x b (s) tq ix pg l n)) : Calls Tryz.prog 27 #[.pointer (some ⟨x, 0, none⟩), .int .i64 102] w fun e w' => e = .returned (.tuple #[]) ∧ Hid (Ex W0 w' x b (s.goTo 102) tq ix pg l n) := yM 102 (by decide) h
theorem ZgE (h : Hid (Ex W0 w x b (s) tq ix pg l n)) : Calls Tryz.prog 27 #[.pointer (some ⟨x, 0, none⟩), .int .i64 56] w fun e w' => e = .returned (.tuple #[]) ∧ Hid (Ex W0 w' x b (s.goTo 56) tq ix pg l n) := yM 56 (by decide) h
theorem Zie (a r : Nat) (ha : a < 65536) (hr : s.numV a = r) (h : Hid (Ex W0 w x b (s) tq ix pg l (n + 2))) : CX 28 #[.pointer (some ⟨x, 0, none⟩), .int .i64 (a : Int)] w (.int .i64 (r : Int)) fun w' => Hid (Ex W0 w' x b (s.num a) tq ix pg l n) := by
 subst hr; exact yN a ha h
end
theorem ZkW (pause line : Bool) (hp : ¬ s.r.px = 0) (hr : s.r.Fits) (h : Hid (Fx W0 w b s.u l (n + 4))) :
  CX 13 #[s.r.v, .pointer (some ⟨b, 0, none⟩), .bool pause, .bool line] w (.tuple #[(s).r.v, .int .i64 0]) fun w' => Hid (Fx W0 w' b (s).u l n) := by
 obtain ⟨hg, X, hX, hO⟩ := h.out
 have HG := Zb hg
 have HX := Zb hX
 have HM := Zb hO
 have HR := Zb hr
 have hbx : ∀ w, (Instr.build 58 #[(0, s.r.tick.v), (1, .pointer (some ⟨b, 0, none⟩))]).run Tryz.prog w = .ok (.agg (xc s.tick b 0 false 0).toArray) w := ZZ s.r.tick s.px b s.u
 clear h hg hX hO
 have p0 : (0 : Int) < (s.r.px : Int) := by omega
 clear hr
 go_enter Tryz.func13, Tryz.ntmps13
 go_wp2_with (first | (refine b0 ?_; clear HM; intro w' g' HM) | refine b13 ?_ | (refine a22 ?_; clear HM; intro w' HM))
 refine bodyPost_ret (v := .tuple #[(s).r.v, .int .i64 0]) (ZD HM Tryz.results13 _ rfl rfl (.z) aggR (Rg.cells_length _)) rfl ⟨rfl, Zb ⟨HG.out.less (by omega), _, HX.out, HM.out.rest.rest⟩⟩
theorem Zif (hp : s.r.px = 0) (hr : s.r.Fits) (h : Hid (Fx W0 w b s.u l (n + 4))) :
  CX 13 #[s.r.v, .pointer (some ⟨b, 0, none⟩), .bool false, .bool false] w (.tuple #[(s).r.v, .int .i64 0]) fun w' => Hid (Fx W0 w' b (s).u l n) := by
 obtain ⟨hg, X, hX, hO⟩ := h.out
 have HG := Zb hg
 have HX := Zb hX
 have HM := Zb hO
 have HR := Zb hr
 have hbx : ∀ w, (Instr.build 58 #[(0, s.r.tick.v), (1, .pointer (some ⟨b, 0, none⟩))]).run Tryz.prog w = .ok (.agg (xc s.tick b 0 false 0).toArray) w := ZZ s.r.tick s.px b s.u
 clear h hg hX hO
 have p0 : (s.r.px : Int) = 0 := by omega
 clear hr
 go_enter Tryz.func13, Tryz.ntmps13
 go_wp2_with (first | (refine b0 ?_; clear HM; intro w' g' HM) | refine b13 ?_ | (refine a22 ?_; clear HM; intro w' HM))
 refine bodyPost_ret (v := .tuple #[(s).r.v, .int .i64 0]) (ZD HM Tryz.results13 _ rfl rfl (.z) aggR (Rg.cells_length _)) rfl ⟨rfl, Zb ⟨HG.out.less (by omega), _, HX.out, HM.out.rest.rest⟩⟩
theorem Zig (hp : s.r.px = 0) (h1 : s.r.q1 = false) (hr : s.r.Fits) (h : Hid (Fx W0 w b s.u l (n + 4))) :
  CX 13 #[s.r.v, .pointer (some ⟨b, 0, none⟩), .bool false, .bool true] w (.tuple #[(s).r.v, .int .i64 0]) fun w' => Hid (Fx W0 w' b (s).u l n) := by
 obtain ⟨hg, X, hX, hO⟩ := h.out
 have HG := Zb hg
 have HX := Zb hX
 have HM := Zb hO
 have HR := Zb hr
 have hbx : ∀ w, (Instr.build 58 #[(0, s.r.tick.v), (1, .pointer (some ⟨b, 0, none⟩))]).run Tryz.prog w = .ok (.agg (xc s.tick b 0 false 0).toArray) w := ZZ s.r.tick s.px b s.u
 clear h hg hX hO
 have p0 : (s.r.px : Int) = 0 := by omega
 clear hr
 go_enter Tryz.func13, Tryz.ntmps13
 go_wp2_with (first | (refine b0 ?_; clear HM; intro w' g' HM) | refine b13 ?_ | (refine a22 ?_; clear HM; intro w' HM))
 refine bodyPost_ret (v := .tuple #[(s).r.v, .int .i64 0]) (ZD HM Tryz.results13 _ rfl rfl (.z) aggR (Rg.cells_length _)) rfl ⟨rfl, Zb ⟨HG.out.less (by omega), _, HX.out, HM.out.rest.rest⟩⟩
theorem Zih (hp : s.r.px = 0) (h1 : s.r.q1 = true) (h2 : s.r.dl = true) (hr : s.r.Fits) (h : Hid (Fx W0 w b s.u l (n + 4))) :
  CX 13 #[s.r.v, .pointer (some ⟨b, 0, none⟩), .bool false, .bool true] w (.tuple #[(s).r.v, .int .i64 0]) fun w' => Hid (Fx W0 w' b (s).u l n) := by
 obtain ⟨hg, X, hX, hO⟩ := h.out
 have HG := Zb hg
 have HX := Zb hX
 have HM := Zb hO
 have HR := Zb hr
 have hbx : ∀ w, (Instr.build 58 #[(0, s.r.tick.v), (1, .pointer (some ⟨b, 0, none⟩))]).run Tryz.prog w = .ok (.agg (xc s.tick b 0 false 0).toArray) w := ZZ s.r.tick s.px b s.u
 clear h hg hX hO
 have p0 : (s.r.px : Int) = 0 := by omega
 clear hr
 go_enter Tryz.func13, Tryz.ntmps13
 go_wp2_with (first | (refine b0 ?_; clear HM; intro w' g' HM) | refine b13 ?_ | (refine a22 ?_; clear HM; intro w' HM))
 refine bodyPost_ret (v := .tuple #[(s).r.v, .int .i64 0]) (ZD HM Tryz.results13 _ rfl rfl (.z) aggR (Rg.cells_length _)) rfl ⟨rfl, Zb ⟨HG.out.less (by omega), _, HX.out, HM.out.rest.rest⟩⟩
theorem Zc8 (line : Bool) (hp : s.r.px = 0) (hr : s.r.Fits) (h : Hid (Fx W0 w b s.u l (n + 4))) :
  CX 13 #[s.r.v, .pointer (some ⟨b, 0, none⟩), .bool true, .bool line] w (.tuple #[((((s.setQ1 false).wake).push s.r.pc).goTo 102).r.v, .int .i64 11]) fun w' => Hid (Fx W0 w' b ((((s.setQ1 false).wake).push s.r.pc).goTo 102).u l n) := by
 obtain ⟨hg, X, hX, hO⟩ := h.out
 have HG := Zb hg
 have HX := Zb hX
 have HM := Zb hO
 have HR := Zb hr
 have hbx : ∀ w, (Instr.build 58 #[(0, s.r.tick.v), (1, .pointer (some ⟨b, 0, none⟩))]).run Tryz.prog w = .ok (.agg (xc s.tick b 0 false 0).toArray) w := ZZ s.r.tick s.px b s.u
 clear h hg hX hO
 have tg1 : Hid True := trivial
 have tg2 : Hid True := trivial
 have tg3 : Hid True := trivial
 have p0 : (s.r.px : Int) = 0 := by omega
 obtain ⟨z, hz⟩ : ∃ z, Hid (s.r.pc = z) := ⟨_, rfl⟩
 have z1 : z < 65536 := by rw [← hz.out]; exact hr.pc
 have hz2 : Hid ((s.setQ1 false).wake.r.pc = z) := Zb hz.out
 have hf1 : Hid (s.setQ1 false).wake.r.Fits := Zb { Rg.tick_fits' hr with }
 rw [show ((s.setQ1 false).wake).push s.r.pc = ((s.setQ1 false).wake).push z by rw [hz.out]]
 clear hr
 go_enter Tryz.func13, Tryz.ntmps13
 go_wp2_with (first | (refine b0 ?_; (first | (clear tg1 HM; intro w' g1 HM) | (clear tg2 HM; intro w' g2 HM) | (clear tg3 HM; intro w' g3 HM) | (clear HM; intro w' g' HM))) | refine b14 ?_ | (go_at_call 16; (with_reducible refine (JW s.r HR.out.r _).mono ?_); rintro e w' ⟨rfl, hb⟩; replace HM := Zb (HM.out.call hb); clear hb) | (refine a58 ?_; clear tg3; intro w' g3 HM'; clear HM; have HM := HM'; clear HM') | ((with_reducible apply Ye HM); exact rfl; exact rfl; exact rfl; exact .z; (first | exact W6 | exact W7 | exact W8 | exact W9 | exact za); exact .z; (first | (with_reducible exact oneU16.size) | (with_reducible exact oneBool.size)); exact rfl; exact rfl; (rw [xc_length]; decide); exact rfl; clear HM; intro w' HM))
 rw [Cs.wake_as] at HM
 have HF := hf1
 go_wp2_with (first | (go_at_call 26; have hco := Zb (Ex.made (l := _ :: _ :: l) HM.out HG.out HX.out HF.out); (with_reducible refine (UP z hz2.out hco).mono ?_); clear hco; rintro e w' ⟨rfl, hc⟩; clear HM HF HG HX; obtain ⟨HF, HG, X, HX, HM⟩ := hc.out.hid; clear hc) | (go_at_call 25; have hco := Zb (Ex.made (l := _ :: _ :: l) HM.out HG.out HX.out HF.out); (with_reducible refine (Vc z z1 hco).mono ?_); clear hco; rintro e w' ⟨rfl, hc⟩; clear HM HF HG HX; obtain ⟨HF, HG, X, HX, HM⟩ := hc.out.hid; clear hc) | (go_at_call 27; have hco := Zb (Ex.made (l := _ :: _ :: l) HM.out HG.out HX.out HF.out); (with_reducible refine (Zid hco).mono ?_); clear hco; rintro e w' ⟨rfl, hc⟩; clear HM HF HG HX; obtain ⟨HF, HG, X, HX, HM⟩ := hc.out.hid; clear hc) | refine a23 ?_ | (refine a22 ?_; clear HM; intro w' HM))
 refine bodyPost_ret (v := .tuple #[((((s.setQ1 false).wake).push z).goTo 102).r.v, .int .i64 11]) (ZD HM Tryz.results13 _ rfl rfl (.s .z) aggR (Rg.cells_length _)) rfl ⟨rfl, Zb ⟨HG.out.less (by omega), _, HX.out, HM.out.rest.rest.rest⟩⟩
theorem Zfa (hp : s.r.px = 0) (h1 : s.r.q1 = true) (h2 : s.r.dl = false) (hi : ¬ s.r.im = 2) (z : Nat) (hz : Hid (s.r.pc = z)) (hr : s.r.Fits) (h : Hid (Fx W0 w b s.u l (n + 4))) :
  CX 13 #[s.r.v, .pointer (some ⟨b, 0, none⟩), .bool false, .bool true] w (.tuple #[(((((s.setQ1 false).wake).push z).setQ2 false).goTo 56).r.v, .int .i64 13]) fun w' => Hid (Fx W0 w' b (((((s.setQ1 false).wake).push z).setQ2 false).goTo 56).u l n) := by
 obtain ⟨hg, X, hX, hO⟩ := h.out
 have HG := Zb hg
 have HX := Zb hX
 have HM := Zb hO
 have HR := Zb hr
 have hbx : ∀ w, (Instr.build 58 #[(0, s.r.tick.v), (1, .pointer (some ⟨b, 0, none⟩))]).run Tryz.prog w = .ok (.agg (xc s.tick b 0 false 0).toArray) w := ZZ s.r.tick s.px b s.u
 clear h hg hX hO
 have tg1 : Hid True := trivial
 have tg2 : Hid True := trivial
 have tg3 : Hid True := trivial
 have p0 : (s.r.px : Int) = 0 := by omega
 have z1 : z < 65536 := by rw [← hz.out]; exact hr.pc
 have hz2 : Hid ((s.setQ1 false).wake.r.pc = z) := Zb hz.out
 have hf1 : Hid (s.setQ1 false).wake.r.Fits := Zb { Rg.tick_fits' hr with }
 have i2 : ((s.r.im : Int) == 2) = false := by simp; omega
 clear hr
 go_enter Tryz.func13, Tryz.ntmps13
 go_wp2_with (first | (refine b0 ?_; (first | (clear tg1 HM; intro w' g1 HM) | (clear tg2 HM; intro w' g2 HM) | (clear tg3 HM; intro w' g3 HM) | (clear HM; intro w' g' HM))) | refine b14 ?_ | (go_at_call 16; (with_reducible refine (JW s.r HR.out.r _).mono ?_); rintro e w' ⟨rfl, hb⟩; replace HM := Zb (HM.out.call hb); clear hb) | (refine a58 ?_; clear tg3; intro w' g3 HM'; clear HM; have HM := HM'; clear HM') | ((with_reducible apply Ye HM); exact rfl; exact rfl; exact rfl; exact .z; (first | exact W6 | exact W7 | exact W8 | exact W9 | exact za); exact .z; (first | (with_reducible exact oneU16.size) | (with_reducible exact oneBool.size)); exact rfl; exact rfl; (rw [xc_length]; decide); exact rfl; clear HM; intro w' HM))
 rw [Cs.wake_as] at HM
 have HF := hf1
 go_wp2_with (first | (go_at_call 26; have hco := Zb (Ex.made (l := _ :: _ :: l) HM.out HG.out HX.out HF.out); (with_reducible refine (UP z hz2.out hco).mono ?_); clear hco; rintro e w' ⟨rfl, hc⟩; clear HM HF HG HX; obtain ⟨HF, HG, X, HX, HM⟩ := hc.out.hid; clear hc) | (go_at_call 25; have hco := Zb (Ex.made (l := _ :: _ :: l) HM.out HG.out HX.out HF.out); (with_reducible refine (Vc z z1 hco).mono ?_); clear hco; rintro e w' ⟨rfl, hc⟩; clear HM HF HG HX; obtain ⟨HF, HG, X, HX, HM⟩ := hc.out.hid; clear hc) | ((with_reducible apply Ye HM); exact rfl; exact rfl; exact rfl; exact .z; (first | exact W6 | exact W7 | exact W8 | exact W9 | exact za); exact .z; (first | (with_reducible exact oneU16.size) | (with_reducible exact oneBool.size)); exact rfl; exact rfl; (rw [xc_length]; decide); exact rfl; clear HM; intro w' HM))
 have hff : Hid ((((s.setQ1 false).wake).push z).setQ2 false).r.Fits := Zb { HF.out with }
 clear HF; have HF := hff; clear hff
 go_wp2_with (first | (go_at_call 27; have hco := Zb (Ex.made (l := _ :: _ :: l) HM.out HG.out HX.out HF.out); (with_reducible refine (ZgE hco).mono ?_); clear hco; rintro e w' ⟨rfl, hc⟩; clear HM HF HG HX; obtain ⟨HF, HG, X, HX, HM⟩ := hc.out.hid; clear hc) | refine b15 ?_ | (refine a22 ?_; clear HM; intro w' HM))
 refine bodyPost_ret (v := .tuple #[(((((s.setQ1 false).wake).push z).setQ2 false).goTo 56).r.v, .int .i64 13]) (ZD HM Tryz.results13 _ rfl rfl (.s .z) aggR (Rg.cells_length _)) rfl ⟨rfl, Zb ⟨HG.out.less (by omega), _, HX.out, HM.out.rest.rest.rest⟩⟩
theorem Zc9 (hp : s.r.px = 0) (h1 : s.r.q1 = true) (h2 : s.r.dl = false) (hi : s.r.im = 2) (z : Nat) (hz : Hid (s.r.pc = z)) (hr : s.r.Fits) (h : Hid (Fx W0 w b s.u l (n + 4))) :
  CX 13 #[s.r.v, .pointer (some ⟨b, 0, none⟩), .bool false, .bool true] w (.tuple #[(((((((s.setQ1 false).wake).push z).setQ2 false).goTo 56).num (s.r.i * 256 + 255)).goTo ((((((s.setQ1 false).wake).push z).setQ2 false).goTo 56).numV (s.r.i * 256 + 255))).r.v, .int .i64 19]) fun w' => Hid (Fx W0 w' b (((((((s.setQ1 false).wake).push z).setQ2 false).goTo 56).num (s.r.i * 256 + 255)).goTo ((((((s.setQ1 false).wake).push z).setQ2 false).goTo 56).numV (s.r.i * 256 + 255))).u l n) := by
 obtain ⟨hg, X, hX, hO⟩ := h.out
 have HG := Zb hg
 have HX := Zb hX
 have HM := Zb hO
 have HR := Zb hr
 have hbx : ∀ w, (Instr.build 58 #[(0, s.r.tick.v), (1, .pointer (some ⟨b, 0, none⟩))]).run Tryz.prog w = .ok (.agg (xc s.tick b 0 false 0).toArray) w := ZZ s.r.tick s.px b s.u
 clear h hg hX hO
 have tg1 : Hid True := trivial
 have tg2 : Hid True := trivial
 have tg3 : Hid True := trivial
 have p0 : (s.r.px : Int) = 0 := by omega
 have z1 : z < 65536 := by rw [← hz.out]; exact hr.pc
 have hz2 : Hid ((s.setQ1 false).wake.r.pc = z) := Zb hz.out
 have hf1 : Hid (s.setQ1 false).wake.r.Fits := Zb { Rg.tick_fits' hr with }
 have i2 : ((s.r.im : Int) == 2) = true := by rw [hi]; rfl
 have v1 : s.r.i < 256 := hr.i
 obtain ⟨a, ha⟩ : ∃ a, Hid (s.r.i * 256 + 255 = a) := ⟨_, rfl⟩
 have a1 : a < 65536 := by rw [← ha.out]; omega
 have ea : (s.r.i : Int) * 256 + 255 = (a : Int) := by rw [← ha.out]; omega
 rw [ha.out]
 obtain ⟨r, hrr⟩ : ∃ r, Hid ((((((s.setQ1 false).wake).push z).setQ2 false).goTo 56).numV a = r) := ⟨_, rfl⟩
 rw [hrr.out]
 clear hr
 go_enter Tryz.func13, Tryz.ntmps13
 go_wp2_with (first | (refine b0 ?_; (first | (clear tg1 HM; intro w' g1 HM) | (clear tg2 HM; intro w' g2 HM) | (clear tg3 HM; intro w' g3 HM) | (clear HM; intro w' g' HM))) | refine b14 ?_ | (go_at_call 16; (with_reducible refine (JW s.r HR.out.r _).mono ?_); rintro e w' ⟨rfl, hb⟩; replace HM := Zb (HM.out.call hb); clear hb) | (refine a58 ?_; clear tg3; intro w' g3 HM'; clear HM; have HM := HM'; clear HM') | ((with_reducible apply Ye HM); exact rfl; exact rfl; exact rfl; exact .z; (first | exact W6 | exact W7 | exact W8 | exact W9 | exact za); exact .z; (first | (with_reducible exact oneU16.size) | (with_reducible exact oneBool.size)); exact rfl; exact rfl; (rw [xc_length]; decide); exact rfl; clear HM; intro w' HM))
 rw [Cs.wake_as] at HM
 have HF := hf1
 go_wp2_with (first | (go_at_call 26; have hco := Zb (Ex.made (l := _ :: _ :: l) HM.out HG.out HX.out HF.out); (with_reducible refine (UP z hz2.out hco).mono ?_); clear hco; rintro e w' ⟨rfl, hc⟩; clear HM HF HG HX; obtain ⟨HF, HG, X, HX, HM⟩ := hc.out.hid; clear hc) | (go_at_call 25; have hco := Zb (Ex.made (l := _ :: _ :: l) HM.out HG.out HX.out HF.out); (with_reducible refine (Vc z z1 hco).mono ?_); clear hco; rintro e w' ⟨rfl, hc⟩; clear HM HF HG HX; obtain ⟨HF, HG, X, HX, HM⟩ := hc.out.hid; clear hc) | ((with_reducible apply Ye HM); exact rfl; exact rfl; exact rfl; exact .z; (first | exact W6 | exact W7 | exact W8 | exact W9 | exact za); exact .z; (first | (with_reducible exact oneU16.size) | (with_reducible exact oneBool.size)); exact rfl; exact rfl; (rw [xc_length]; decide); exact rfl; clear HM; intro w' HM))
 have hff : Hid ((((s.setQ1 false).wake).push z).setQ2 false).r.Fits := Zb { HF.out with }
 clear HF; have HF := hff; clear hff
 go_wp2_with (first | (go_at_call 27; have hco := Zb (Ex.made (l := _ :: _ :: l) HM.out HG.out HX.out HF.out); (with_reducible refine (ZgE hco).mono ?_); clear hco; rintro e w' ⟨rfl, hc⟩; clear HM HF HG HX; obtain ⟨HF, HG, X, HX, HM⟩ := hc.out.hid; clear hc) | refine a72 ?_)
 have r1 : r < 65536 := by rw [← hrr.out]; exact Nat.lt_of_lt_of_le (Nat.add_lt_add_of_le_of_lt (Nat.mul_le_mul_right 256 (Nat.le_of_lt_succ (HG.out.1 (up1 a)))) (HG.out.1 a)) (by decide)
 go_wp2_with (first | (go_at_call 28; have hco := Zb (Ex.made (l := _ :: _ :: l) HM.out HG.out HX.out HF.out); (with_reducible refine (Zie a r a1 hrr.out hco).mono ?_); clear hco; rintro e w' ⟨rfl, hc⟩; clear HM HF HG HX; obtain ⟨HF, HG, X, HX, HM⟩ := hc.out.hid; clear hc) | (go_at_call 27; have hco := Zb (Ex.made (l := _ :: _ :: l) HM.out HG.out HX.out HF.out); (with_reducible refine (yM r r1 hco).mono ?_); clear hco; rintro e w' ⟨rfl, hc⟩; clear HM HF HG HX; obtain ⟨HF, HG, X, HX, HM⟩ := hc.out.hid; clear hc) | refine a23 ?_ | (refine a22 ?_; clear HM; intro w' HM))
 refine bodyPost_ret (v := .tuple #[(((((((s.setQ1 false).wake).push z).setQ2 false).goTo 56).num a).goTo r).r.v, .int .i64 19]) (ZD HM Tryz.results13 _ rfl rfl (.s .z) aggR (Rg.cells_length _)) rfl ⟨rfl, Zb ⟨HG.out.less (by omega), _, HX.out, HM.out.rest.rest.rest⟩⟩
theorem k2 {P : Prop} (h : P := by
 have HM := Zb (Own.start w)
 go_enter Tryz.func43, Tryz.ntmps43
 go_wp2_with (first | (refine a0 ?_; clear HM; intro w' g' HM) | refine a13 ?_)
 (refine Zo HM (by kernel_rfl) (by kernel_rfl) ?_; (try simp only [Act.put, Ze, Zc, Zd]); repeat ((fail_if_success (with_reducible refine wpQuiet_nil ?_)); first | go_big_quiet_skip | (go_big_quiet_want; first | (refine a19 ?_; go_big_quiet_op; go_big_quiet_on) | (refine a20 ?_; go_big_quiet_op; go_big_quiet_on) | (refine a21 ?_; go_big_quiet_op; go_big_quiet_on) | ((with_reducible apply Zh); exact fun w => rfl; (focus (go_simp; all_goals with_reducible rfl)); (intro wq HQ; first | (with_reducible exact HH1.out _) | (with_reducible exact HH2.out _)); go_big_quiet_op; go_big_quiet_on) | (go_big_quiet_op; go_big_quiet_on) | (go_big_quiet_op; refine ⟨_, fun _ _ => rfl, ?_⟩; go_big_quiet_on))))
 refine wpQuiet_nil ?_
 intro w' HM'
 clear HM; have HM := HM'; clear HM'
 go_wp2_with fail
 go_ret
 exact ⟨rfl, Own.fin HM⟩) : P := h
theorem Zii (r : Rg) (h1 : r.b < 256) (h2 : r.c < 256) (w : World) : CB 43 #[r.v, .string ⟨#[66, 67]⟩] w (.int .i64 ((r.b * 256 + r.c : Nat) : Int)) := by
 obtain ⟨x, hx⟩ : ∃ x, x = r.b := ⟨_, rfl⟩
 obtain ⟨y, hy⟩ : ∃ y, y = r.c := ⟨_, rfl⟩
 have H1 := ZcS r h1
 have H2 := ZcT r h2
 rw [← hx] at H1 h1 ⊢
 rw [← hy] at H2 h2 ⊢
 obtain ⟨p, hp⟩ : ∃ p, p = 256 * (x : Int) := ⟨_, rfl⟩
 obtain ⟨q, hq⟩ : ∃ q, Hid (q = p + (y : Int)) := ⟨_, rfl⟩
 have e1 : IntKind.i64.wrap (256 * (x : Int)) = p := by rw [hp, IntKind.wrap_i64]; omega
 have e2 : IntKind.i64.wrap (p + (y : Int)) = q := by rw [hq.out, hp, IntKind.wrap_i64]; omega
 have e3 : ((x * 256 + y : Nat) : Int) = q := by rw [hq.out, hp]; omega
 rw [e3]
 have HH1 := Zb H1
 have HH2 := Zb H2
 clear H1 H2 hx hy e3 hp
 have c1 : (ByteArray.mk #[66, 67]).extract 0 1 = ⟨#[66]⟩ := by decide +kernel
 have c2 : (ByteArray.mk #[66, 67]).extract 1 2 = ⟨#[67]⟩ := by decide +kernel
 exact k2
theorem Zij (r : Rg) (h1 : r.d < 256) (h2 : r.e < 256) (w : World) : CB 43 #[r.v, .string ⟨#[68, 69]⟩] w (.int .i64 ((r.d * 256 + r.e : Nat) : Int)) := by
 obtain ⟨x, hx⟩ : ∃ x, x = r.d := ⟨_, rfl⟩
 obtain ⟨y, hy⟩ : ∃ y, y = r.e := ⟨_, rfl⟩
 have H1 := ZcU r h1
 have H2 := ZcV r h2
 rw [← hx] at H1 h1 ⊢
 rw [← hy] at H2 h2 ⊢
 obtain ⟨p, hp⟩ : ∃ p, p = 256 * (x : Int) := ⟨_, rfl⟩
 obtain ⟨q, hq⟩ : ∃ q, Hid (q = p + (y : Int)) := ⟨_, rfl⟩
 have e1 : IntKind.i64.wrap (256 * (x : Int)) = p := by rw [hp, IntKind.wrap_i64]; omega
 have e2 : IntKind.i64.wrap (p + (y : Int)) = q := by rw [hq.out, hp, IntKind.wrap_i64]; omega
 have e3 : ((x * 256 + y : Nat) : Int) = q := by rw [hq.out, hp]; omega
 rw [e3]
 have HH1 := Zb H1
 have HH2 := Zb H2
 clear H1 H2 hx hy e3 hp
 have c1 : (ByteArray.mk #[68, 69]).extract 0 1 = ⟨#[68]⟩ := by decide +kernel
 have c2 : (ByteArray.mk #[68, 69]).extract 1 2 = ⟨#[69]⟩ := by decide +kernel
 exact k2
theorem Zik (r : Rg) (h1 : r.h < 256) (h2 : r.l < 256) (w : World) : CB 43 #[r.v, .string ⟨#[72, 76]⟩] w (.int .i64 ((r.h * 256 + r.l : Nat) : Int)) := by
 obtain ⟨x, hx⟩ : ∃ x, x = r.h := ⟨_, rfl⟩
 obtain ⟨y, hy⟩ : ∃ y, y = r.l := ⟨_, rfl⟩
 have H1 := ZcW r h1
 have H2 := ZcX r h2
 rw [← hx] at H1 h1 ⊢
 rw [← hy] at H2 h2 ⊢
 obtain ⟨p, hp⟩ : ∃ p, p = 256 * (x : Int) := ⟨_, rfl⟩
 obtain ⟨q, hq⟩ : ∃ q, Hid (q = p + (y : Int)) := ⟨_, rfl⟩
 have e1 : IntKind.i64.wrap (256 * (x : Int)) = p := by rw [hp, IntKind.wrap_i64]; omega
 have e2 : IntKind.i64.wrap (p + (y : Int)) = q := by rw [hq.out, hp, IntKind.wrap_i64]; omega
 have e3 : ((x * 256 + y : Nat) : Int) = q := by rw [hq.out, hp]; omega
 rw [e3]
 have HH1 := Zb H1
 have HH2 := Zb H2
 clear H1 H2 hx hy e3 hp
 have c1 : (ByteArray.mk #[72, 76]).extract 0 1 = ⟨#[72]⟩ := by decide +kernel
 have c2 : (ByteArray.mk #[72, 76]).extract 1 2 = ⟨#[76]⟩ := by decide +kernel
 exact k2
theorem Zil (r : Rg) (h1 : r.a < 256) (h2 : r.f < 256) (w : World) : CB 43 #[r.v, .string ⟨#[65, 70]⟩] w (.int .i64 ((r.a * 256 + r.f : Nat) : Int)) := by
 obtain ⟨x, hx⟩ : ∃ x, x = r.a := ⟨_, rfl⟩
 obtain ⟨y, hy⟩ : ∃ y, y = r.f := ⟨_, rfl⟩
 have H1 := ZcR r h1
 have H2 := ZgC r h2
 rw [← hx] at H1 h1 ⊢
 rw [← hy] at H2 h2 ⊢
 obtain ⟨p, hp⟩ : ∃ p, p = 256 * (x : Int) := ⟨_, rfl⟩
 obtain ⟨q, hq⟩ : ∃ q, Hid (q = p + (y : Int)) := ⟨_, rfl⟩
 have e1 : IntKind.i64.wrap (256 * (x : Int)) = p := by rw [hp, IntKind.wrap_i64]; omega
 have e2 : IntKind.i64.wrap (p + (y : Int)) = q := by rw [hq.out, hp, IntKind.wrap_i64]; omega
 have e3 : ((x * 256 + y : Nat) : Int) = q := by rw [hq.out, hp]; omega
 rw [e3]
 have HH1 := Zb H1
 have HH2 := Zb H2
 clear H1 H2 hx hy e3 hp
 have c1 : (ByteArray.mk #[65, 70]).extract 0 1 = ⟨#[65]⟩ := by decide +kernel
 have c2 : (ByteArray.mk #[65, 70]).extract 1 2 = ⟨#[70]⟩ := by decide +kernel
 exact k2
theorem Zim (r : Rg) (v : Nat) (hv : v < 65536) (w : World) : CB 99 #[r.v, .string ⟨#[66, 67]⟩, .int .i64 (v : Int)] w (({ r with b := v / 256, c := v % 256 } : Rg).v) := by
 obtain ⟨x, hx⟩ : ∃ x, Hid (v / 256 = x) := ⟨_, rfl⟩
 obtain ⟨y, hy⟩ : ∃ y, Hid (v % 256 = y) := ⟨_, rfl⟩
 have x1 : x < 256 := by have := hx.out; omega
 have y1 : y < 256 := by have := hy.out; omega
 rw [hx.out, hy.out]
 have HH1 := Zb (Zc0 r x x1)
 have HH2 := Zb (Zc1 { r with b := x } y y1)
 have e1 : IntKind.i64.wrap ((v : Int).tdiv 256) = (x : Int) := by rw [Int.tdiv_eq_ediv_of_nonneg (by omega), IntKind.wrap_i64]; have := hx.out; omega
 have e2 : (x : Int).tmod 256 = (x : Int) := by rw [Int.tmod_eq_emod_of_nonneg (by omega)]; omega
 have e3 : (v : Int).tmod 256 = (y : Int) := by rw [Int.tmod_eq_emod_of_nonneg (by omega)]; have := hy.out; omega
 have e4 : (v : Int) / 256 = (x : Int) := by have := hx.out; omega
 have hv2 : (v : Int) < 65536 := by omega
 have c1 : (ByteArray.mk #[66, 67]).extract 0 1 = ⟨#[66]⟩ := by decide +kernel
 have c2 : (ByteArray.mk #[66, 67]).extract 1 2 = ⟨#[67]⟩ := by decide +kernel
 clear hv x1 y1 hx hy
 have HM := Zb (Own.start w)
 go_enter Tryz.func99, Tryz.ntmps99
 go_wp2_with (first | (refine b0 ?_; clear HM; intro w' g' HM) | refine a6 ?_ | (refine b1 ?_; clear HM; intro w' HM))
 (refine Zk 12 HM (by kernel_rfl) (by kernel_rfl) (by kernel_rfl) ?_; simp only [List.take_succ_cons, List.take_zero, List.drop_succ_cons, List.drop_zero]; (try simp only [Act.put, Ze, Zc, Zd]); repeat ((fail_if_success (with_reducible refine wpQuiet_nil ?_)); first | go_big_quiet_skip | (go_big_quiet_want; first | (refine a19 ?_; go_big_quiet_op; go_big_quiet_on) | (refine a20 ?_; go_big_quiet_op; go_big_quiet_on) | (refine a21 ?_; go_big_quiet_op; go_big_quiet_on) | ((with_reducible apply Zh); exact fun w => rfl; (focus (go_simp; all_goals with_reducible rfl)); (intro wq HQ; first | (with_reducible exact HH1.out _) | (with_reducible exact HH2.out _)); go_big_quiet_op; go_big_quiet_on) | (go_big_quiet_op; go_big_quiet_on) | (go_big_quiet_op; refine ⟨_, fun _ _ => rfl, ?_⟩; go_big_quiet_on))))
 refine wpQuiet_nil ?_
 intro w' HM'
 clear HM; have HM := HM'; clear HM'
 go_wp2_with (first | (refine a7 ?_; clear HM; intro w' HM))
 refine bodyPost_ret (v := .agg ({ r with b := x, c := y } : Rg).cells.toArray) (Zi HM Tryz.results99 _ rfl (by first | exact .z | exact .s .z) aggR) rfl ⟨rfl, Own.fin HM⟩
theorem Zin (r : Rg) (v : Nat) (hv : v < 65536) (w : World) : CB 99 #[r.v, .string ⟨#[68, 69]⟩, .int .i64 (v : Int)] w (({ r with d := v / 256, e := v % 256 } : Rg).v) := by
 obtain ⟨x, hx⟩ : ∃ x, Hid (v / 256 = x) := ⟨_, rfl⟩
 obtain ⟨y, hy⟩ : ∃ y, Hid (v % 256 = y) := ⟨_, rfl⟩
 have x1 : x < 256 := by have := hx.out; omega
 have y1 : y < 256 := by have := hy.out; omega
 rw [hx.out, hy.out]
 have HH1 := Zb (Zc2 r x x1)
 have HH2 := Zb (Zc3 { r with d := x } y y1)
 have e1 : IntKind.i64.wrap ((v : Int).tdiv 256) = (x : Int) := by rw [Int.tdiv_eq_ediv_of_nonneg (by omega), IntKind.wrap_i64]; have := hx.out; omega
 have e2 : (x : Int).tmod 256 = (x : Int) := by rw [Int.tmod_eq_emod_of_nonneg (by omega)]; omega
 have e3 : (v : Int).tmod 256 = (y : Int) := by rw [Int.tmod_eq_emod_of_nonneg (by omega)]; have := hy.out; omega
 have e4 : (v : Int) / 256 = (x : Int) := by have := hx.out; omega
 have hv2 : (v : Int) < 65536 := by omega
 have c1 : (ByteArray.mk #[68, 69]).extract 0 1 = ⟨#[68]⟩ := by decide +kernel
 have c2 : (ByteArray.mk #[68, 69]).extract 1 2 = ⟨#[69]⟩ := by decide +kernel
 clear hv x1 y1 hx hy
 have HM := Zb (Own.start w)
 go_enter Tryz.func99, Tryz.ntmps99
 go_wp2_with (first | (refine b0 ?_; clear HM; intro w' g' HM) | refine a6 ?_ | (refine b1 ?_; clear HM; intro w' HM))
 (refine Zk 12 HM (by kernel_rfl) (by kernel_rfl) (by kernel_rfl) ?_; simp only [List.take_succ_cons, List.take_zero, List.drop_succ_cons, List.drop_zero]; (try simp only [Act.put, Ze, Zc, Zd]); repeat ((fail_if_success (with_reducible refine wpQuiet_nil ?_)); first | go_big_quiet_skip | (go_big_quiet_want; first | (refine a19 ?_; go_big_quiet_op; go_big_quiet_on) | (refine a20 ?_; go_big_quiet_op; go_big_quiet_on) | (refine a21 ?_; go_big_quiet_op; go_big_quiet_on) | ((with_reducible apply Zh); exact fun w => rfl; (focus (go_simp; all_goals with_reducible rfl)); (intro wq HQ; first | (with_reducible exact HH1.out _) | (with_reducible exact HH2.out _)); go_big_quiet_op; go_big_quiet_on) | (go_big_quiet_op; go_big_quiet_on) | (go_big_quiet_op; refine ⟨_, fun _ _ => rfl, ?_⟩; go_big_quiet_on))))
 refine wpQuiet_nil ?_
 intro w' HM'
 clear HM; have HM := HM'; clear HM'
 go_wp2_with (first | (refine a7 ?_; clear HM; intro w' HM))
 refine bodyPost_ret (v := .agg ({ r with d := x, e := y } : Rg).cells.toArray) (Zi HM Tryz.results99 _ rfl (by first | exact .z | exact .s .z) aggR) rfl ⟨rfl, Own.fin HM⟩
theorem Zio (r : Rg) (v : Nat) (hv : v < 65536) (w : World) : CB 99 #[r.v, .string ⟨#[72, 76]⟩, .int .i64 (v : Int)] w (({ r with h := v / 256, l := v % 256 } : Rg).v) := by
 obtain ⟨x, hx⟩ : ∃ x, Hid (v / 256 = x) := ⟨_, rfl⟩
 obtain ⟨y, hy⟩ : ∃ y, Hid (v % 256 = y) := ⟨_, rfl⟩
 have x1 : x < 256 := by have := hx.out; omega
 have y1 : y < 256 := by have := hy.out; omega
 rw [hx.out, hy.out]
 have HH1 := Zb (Zc4 r x x1)
 have HH2 := Zb (Zc5 { r with h := x } y y1)
 have e1 : IntKind.i64.wrap ((v : Int).tdiv 256) = (x : Int) := by rw [Int.tdiv_eq_ediv_of_nonneg (by omega), IntKind.wrap_i64]; have := hx.out; omega
 have e2 : (x : Int).tmod 256 = (x : Int) := by rw [Int.tmod_eq_emod_of_nonneg (by omega)]; omega
 have e3 : (v : Int).tmod 256 = (y : Int) := by rw [Int.tmod_eq_emod_of_nonneg (by omega)]; have := hy.out; omega
 have e4 : (v : Int) / 256 = (x : Int) := by have := hx.out; omega
 have hv2 : (v : Int) < 65536 := by omega
 have c1 : (ByteArray.mk #[72, 76]).extract 0 1 = ⟨#[72]⟩ := by decide +kernel
 have c2 : (ByteArray.mk #[72, 76]).extract 1 2 = ⟨#[76]⟩ := by decide +kernel
 clear hv x1 y1 hx hy
 have HM := Zb (Own.start w)
 go_enter Tryz.func99, Tryz.ntmps99
 go_wp2_with (first | (refine b0 ?_; clear HM; intro w' g' HM) | refine a6 ?_ | (refine b1 ?_; clear HM; intro w' HM))
 (refine Zk 12 HM (by kernel_rfl) (by kernel_rfl) (by kernel_rfl) ?_; simp only [List.take_succ_cons, List.take_zero, List.drop_succ_cons, List.drop_zero]; (try simp only [Act.put, Ze, Zc, Zd]); repeat ((fail_if_success (with_reducible refine wpQuiet_nil ?_)); first | go_big_quiet_skip | (go_big_quiet_want; first | (refine a19 ?_; go_big_quiet_op; go_big_quiet_on) | (refine a20 ?_; go_big_quiet_op; go_big_quiet_on) | (refine a21 ?_; go_big_quiet_op; go_big_quiet_on) | ((with_reducible apply Zh); exact fun w => rfl; (focus (go_simp; all_goals with_reducible rfl)); (intro wq HQ; first | (with_reducible exact HH1.out _) | (with_reducible exact HH2.out _)); go_big_quiet_op; go_big_quiet_on) | (go_big_quiet_op; go_big_quiet_on) | (go_big_quiet_op; refine ⟨_, fun _ _ => rfl, ?_⟩; go_big_quiet_on))))
 refine wpQuiet_nil ?_
 intro w' HM'
 clear HM; have HM := HM'; clear HM'
 go_wp2_with (first | (refine a7 ?_; clear HM; intro w' HM))
 refine bodyPost_ret (v := .agg ({ r with h := x, l := y } : Rg).cells.toArray) (Zi HM Tryz.results99 _ rfl (by first | exact .z | exact .s .z) aggR) rfl ⟨rfl, Own.fin HM⟩
theorem Zip (r : Rg) (v : Nat) (hv : v < 65536) (w : World) : CB 99 #[r.v, .string ⟨#[65, 70]⟩, .int .i64 (v : Int)] w (({ r with a := v / 256, f := v % 256 } : Rg).v) := by
 obtain ⟨x, hx⟩ : ∃ x, Hid (v / 256 = x) := ⟨_, rfl⟩
 obtain ⟨y, hy⟩ : ∃ y, Hid (v % 256 = y) := ⟨_, rfl⟩
 have x1 : x < 256 := by have := hx.out; omega
 have y1 : y < 256 := by have := hy.out; omega
 rw [hx.out, hy.out]
 have HH1 := Zb (ZcZ r x x1)
 have HH2 := Zb (ZgD { r with a := x } y y1)
 have e1 : IntKind.i64.wrap ((v : Int).tdiv 256) = (x : Int) := by rw [Int.tdiv_eq_ediv_of_nonneg (by omega), IntKind.wrap_i64]; have := hx.out; omega
 have e2 : (x : Int).tmod 256 = (x : Int) := by rw [Int.tmod_eq_emod_of_nonneg (by omega)]; omega
 have e3 : (v : Int).tmod 256 = (y : Int) := by rw [Int.tmod_eq_emod_of_nonneg (by omega)]; have := hy.out; omega
 have e4 : (v : Int) / 256 = (x : Int) := by have := hx.out; omega
 have hv2 : (v : Int) < 65536 := by omega
 have c1 : (ByteArray.mk #[65, 70]).extract 0 1 = ⟨#[65]⟩ := by decide +kernel
 have c2 : (ByteArray.mk #[65, 70]).extract 1 2 = ⟨#[70]⟩ := by decide +kernel
 clear hv x1 y1 hx hy
 have HM := Zb (Own.start w)
 go_enter Tryz.func99, Tryz.ntmps99
 go_wp2_with (first | (refine b0 ?_; clear HM; intro w' g' HM) | refine a6 ?_ | (refine b1 ?_; clear HM; intro w' HM))
 (refine Zk 12 HM (by kernel_rfl) (by kernel_rfl) (by kernel_rfl) ?_; simp only [List.take_succ_cons, List.take_zero, List.drop_succ_cons, List.drop_zero]; (try simp only [Act.put, Ze, Zc, Zd]); repeat ((fail_if_success (with_reducible refine wpQuiet_nil ?_)); first | go_big_quiet_skip | (go_big_quiet_want; first | (refine a19 ?_; go_big_quiet_op; go_big_quiet_on) | (refine a20 ?_; go_big_quiet_op; go_big_quiet_on) | (refine a21 ?_; go_big_quiet_op; go_big_quiet_on) | ((with_reducible apply Zh); exact fun w => rfl; (focus (go_simp; all_goals with_reducible rfl)); (intro wq HQ; first | (with_reducible exact HH1.out _) | (with_reducible exact HH2.out _)); go_big_quiet_op; go_big_quiet_on) | (go_big_quiet_op; go_big_quiet_on) | (go_big_quiet_op; refine ⟨_, fun _ _ => rfl, ?_⟩; go_big_quiet_on))))
 refine wpQuiet_nil ?_
 intro w' HM'
 clear HM; have HM := HM'; clear HM'
 go_wp2_with (first | (refine a7 ?_; clear HM; intro w' HM))
 refine bodyPost_ret (v := .agg ({ r with a := x, f := y } : Rg).cells.toArray) (Zi HM Tryz.results99 _ rfl (by first | exact .z | exact .s .z) aggR) rfl ⟨rfl, Own.fin HM⟩
end
end Go.Proofs.YtgdeeiimkhjfiaaGreatDoor
