import Derived.Test.YtljjgakfnajifaaGreatDoorZCpuRe
import Derived.Test.YtljjgakfnajifaaGreatDoorZCpuAw
import Derived.Test.YtljjgakfnajifaaGreatDoorZBase
import Derived.Deep.Cut
import Derived.Deep.CutRange
namespace Go.Proofs.YtljjgakfnajifaaGreatDoor
open Go.RowKit
theorem build_ex (r : Rg) (p b : Nat) (u : U) (w : World) : (Instr.build 72 #[(0, r.v), (1, .pointer (some ⟨b, 0, none⟩))]).run Tryz.prog w = .ok (.agg (xc ⟨r, p, u⟩ b 0 false 0).toArray) w := by
  obtain ⟨a, f, b', c, d, e, h, l, x0, x1, x2, x3, x4, x5, x6, x7, ix, iy, sp, pc, wz, i, r, im, px, q1, q2, ht, dl⟩ := r
  kernel_rfl
theorem Rg.tick_fits' {r : Rg} (h : r.Fits) : r.tick.Fits := { h with r := by show r.r / 128 * 128 + (r.r % 128 + 1) % 128 < 256; have := h.r; omega }
theorem Cs.wake_as (s : Cs) : ((s.tick).setHT false).setQ1 false = (s.setQ1 false).wake := rfl
theorem Cs.wake_q2 (s : Cs) : (s.setQ1 false).wake.setQ2 false = ((s.setQ1 false).setQ2 false).wake := rfl
theorem Cs.push_eq (s : Cs) (z d q : Nat) (hd : dn1 s.r.sp = d) (hq : dn1 d = q) : s.push z = (((s.setSP d).wr d (wHigh z)).setSP q).wr q (z % 256) := by unfold Cs.push; rw [hd, hq]
theorem Cs.push_q2 (s : Cs) (z : Nat) : (s.push z).setQ2 false = (s.setQ2 false).push z := by
  obtain ⟨d, hd⟩ : ∃ d, dn1 s.r.sp = d := ⟨_, rfl⟩
  obtain ⟨q, hq⟩ : ∃ q, dn1 d = q := ⟨_, rfl⟩
  have hd' : dn1 (s.setQ2 false).r.sp = d := hd
  rw [Cs.push_eq s z d q hd hq, Cs.push_eq (s.setQ2 false) z d q hd' hq]
theorem Cs.goTo_num (s : Cs) (c a r : Nat) : ((s.goTo c).num a).goTo r = (s.num a).goTo r := rfl
section
variable {W0 w : World} {x b tq n : Nat} {s : Cs} {ix : Bool} {pg : Int} {l : Blocks}
theorem eget16_n (z : Nat) (hz : s.r.pc = z) (h : Hid (Ex W0 w x b (s) tq ix pg l n)) : Calls Tryz.prog 35 #[.pointer (some ⟨x, 0, none⟩)] w fun e w' => e = .returned (.int .i64 (z : Int)) ∧ Hid (Ex W0 w' x b (s) tq ix pg l n) := by
  subst hz; exact eget16_at h
theorem eto_102 (h : Hid (Ex W0 w x b (s) tq ix pg l n)) : Calls Tryz.prog 36 #[.pointer (some ⟨x, 0, none⟩), .int .i64 102] w fun e w' => e = .returned (.tuple #[]) ∧ Hid (Ex W0 w' x b (s.goTo 102) tq ix pg l n) := eto_at 102 (by decide) h
theorem eto_56 (h : Hid (Ex W0 w x b (s) tq ix pg l n)) : Calls Tryz.prog 36 #[.pointer (some ⟨x, 0, none⟩), .int .i64 56] w fun e w' => e = .returned (.tuple #[]) ∧ Hid (Ex W0 w' x b (s.goTo 56) tq ix pg l n) := eto_at 56 (by decide) h
theorem eload_n (a r : Nat) (ha : a < 65536) (hr : s.numV a = r) (h : Hid (Ex W0 w x b (s) tq ix pg l (n + 2))) : Calls Tryz.prog 37 #[.pointer (some ⟨x, 0, none⟩), .int .i64 (a : Int)] w fun e w' => e = .returned (.int .i64 (r : Int)) ∧ Hid (Ex W0 w' x b (s.num a) tq ix pg l n) := by
  subst hr; exact eload_at a ha h
end
set_option maxRecDepth 100000 in
set_option maxHeartbeats 800000 in
theorem rin_px {W0 w : World} {b n : Nat} {s : Cs} {l : Blocks} (pause line : Bool) (hp : ¬ s.r.px = 0) (hr : s.r.Fits) (h : Hid (Fx W0 w b s.u l (n + 4))) :
    Calls Tryz.prog 21 #[s.r.v, .pointer (some ⟨b, 0, none⟩), .bool pause, .bool line] w fun e w' => e = .returned (.tuple #[(s).r.v, .int .i64 0]) ∧ Hid (Fx W0 w' b (s).u l n) := by
  obtain ⟨hg, X, hX, hO⟩ := h.out
  have HG := Lib.hid hg
  have HX := Lib.hid hX
  have HM := Lib.hid hO
  have HR := Lib.hid hr
  have hbx : ∀ w, (Instr.build 72 #[(0, s.r.tick.v), (1, .pointer (some ⟨b, 0, none⟩))]).run Tryz.prog w = .ok (.agg (xc s.tick b 0 false 0).toArray) w := build_ex s.r.tick s.px b s.u
  clear h hg hX hO
  have tg1 : Hid True := trivial
  have tg2 : Hid True := trivial
  have tg3 : Hid True := trivial
  have p0 : (0 : Int) < (s.r.px : Int) := by omega
  clear hr
  go_enter Tryz.func21, Tryz.ntmps21
  go_wp2_with (first
    | ((with_reducible apply own_box HM); exact rfl; (conv => lhs; whnf); exact rfl; exact rfl; (first | (clear tg1 HM; intro w' g1 HM) | (clear tg2 HM; intro w' g2 HM) | (clear tg3 HM; intro w' g3 HM) | (clear tg4 HM; intro w' g4 HM) | (clear HM; intro w' g' HM)); all_goals skip) | ((with_reducible apply own_row HM); exact rfl; exact rfl; exact aggR; (with_reducible first | exact .z | exact .s .z | exact .s (.s .z) | exact .s (.s (.s .z)) | exact .s (.s (.s (.s .z)))); exact rfl; (first | exact Rg.cells_length _ | exact rfl); all_goals skip) | ((with_reducible apply own_get HM); exact rfl; exact rfl; (first | (with_reducible exact oneU8) | (with_reducible exact oneBool)); (first | exact .z | exact .s .z | exact .s (.s .z)); exact rfl; exact rfl; all_goals skip) | ((with_reducible apply own_alloc HM); exact rfl; (with_reducible exact zeroR); exact rfl; (first | (clear tg1; intro w' g1 HM') | (clear tg2; intro w' g2 HM') | (clear tg3; intro w' g3 HM') | intro w' g' HM'); clear HM; have HM := HM'; clear HM'; all_goals skip)
    | ((with_reducible apply own_lay HM); exact rfl; exact rfl; exact rfl; (first | exact .z | exact .s .z); (first | exact .z | exact .s .z); exact aggR.size; exact Rg.cells_length _; (first | exact Rg.cells_length _ | exact rfl); exact Rg.one1 _; exact rfl; exact rfl; clear HM; intro w' HM; all_goals skip))
  refine bodyPost_ret (v := .tuple #[(s).r.v, .int .i64 0]) (own_results2 HM Tryz.results21 _ rfl rfl (.z) aggR (Rg.cells_length _)) rfl ⟨rfl, Lib.hid ⟨HG.out.less (by omega), _, HX.out, HM.out.rest.rest⟩⟩
set_option maxRecDepth 100000 in
set_option maxHeartbeats 800000 in
theorem rin_no1 {W0 w : World} {b n : Nat} {s : Cs} {l : Blocks} (hp : s.r.px = 0) (hr : s.r.Fits) (h : Hid (Fx W0 w b s.u l (n + 4))) :
    Calls Tryz.prog 21 #[s.r.v, .pointer (some ⟨b, 0, none⟩), .bool false, .bool false] w fun e w' => e = .returned (.tuple #[(s).r.v, .int .i64 0]) ∧ Hid (Fx W0 w' b (s).u l n) := by
  obtain ⟨hg, X, hX, hO⟩ := h.out
  have HG := Lib.hid hg
  have HX := Lib.hid hX
  have HM := Lib.hid hO
  have HR := Lib.hid hr
  have hbx : ∀ w, (Instr.build 72 #[(0, s.r.tick.v), (1, .pointer (some ⟨b, 0, none⟩))]).run Tryz.prog w = .ok (.agg (xc s.tick b 0 false 0).toArray) w := build_ex s.r.tick s.px b s.u
  clear h hg hX hO
  have tg1 : Hid True := trivial
  have tg2 : Hid True := trivial
  have tg3 : Hid True := trivial
  have p0 : (s.r.px : Int) = 0 := by omega
  clear hr
  go_enter Tryz.func21, Tryz.ntmps21
  go_wp2_with (first
    | ((with_reducible apply own_box HM); exact rfl; (conv => lhs; whnf); exact rfl; exact rfl; (first | (clear tg1 HM; intro w' g1 HM) | (clear tg2 HM; intro w' g2 HM) | (clear tg3 HM; intro w' g3 HM) | (clear tg4 HM; intro w' g4 HM) | (clear HM; intro w' g' HM)); all_goals skip) | ((with_reducible apply own_row HM); exact rfl; exact rfl; exact aggR; (with_reducible first | exact .z | exact .s .z | exact .s (.s .z) | exact .s (.s (.s .z)) | exact .s (.s (.s (.s .z)))); exact rfl; (first | exact Rg.cells_length _ | exact rfl); all_goals skip) | ((with_reducible apply own_get HM); exact rfl; exact rfl; (first | (with_reducible exact oneU8) | (with_reducible exact oneBool)); (first | exact .z | exact .s .z | exact .s (.s .z)); exact rfl; exact rfl; all_goals skip) | ((with_reducible apply own_alloc HM); exact rfl; (with_reducible exact zeroR); exact rfl; (first | (clear tg1; intro w' g1 HM') | (clear tg2; intro w' g2 HM') | (clear tg3; intro w' g3 HM') | intro w' g' HM'); clear HM; have HM := HM'; clear HM'; all_goals skip)
    | ((with_reducible apply own_lay HM); exact rfl; exact rfl; exact rfl; (first | exact .z | exact .s .z); (first | exact .z | exact .s .z); exact aggR.size; exact Rg.cells_length _; (first | exact Rg.cells_length _ | exact rfl); exact Rg.one1 _; exact rfl; exact rfl; clear HM; intro w' HM; all_goals skip))
  refine bodyPost_ret (v := .tuple #[(s).r.v, .int .i64 0]) (own_results2 HM Tryz.results21 _ rfl rfl (.z) aggR (Rg.cells_length _)) rfl ⟨rfl, Lib.hid ⟨HG.out.less (by omega), _, HX.out, HM.out.rest.rest⟩⟩
set_option maxRecDepth 100000 in
set_option maxHeartbeats 800000 in
theorem rin_no2 {W0 w : World} {b n : Nat} {s : Cs} {l : Blocks} (hp : s.r.px = 0) (h1 : s.r.q1 = false) (hr : s.r.Fits) (h : Hid (Fx W0 w b s.u l (n + 4))) :
    Calls Tryz.prog 21 #[s.r.v, .pointer (some ⟨b, 0, none⟩), .bool false, .bool true] w fun e w' => e = .returned (.tuple #[(s).r.v, .int .i64 0]) ∧ Hid (Fx W0 w' b (s).u l n) := by
  obtain ⟨hg, X, hX, hO⟩ := h.out
  have HG := Lib.hid hg
  have HX := Lib.hid hX
  have HM := Lib.hid hO
  have HR := Lib.hid hr
  have hbx : ∀ w, (Instr.build 72 #[(0, s.r.tick.v), (1, .pointer (some ⟨b, 0, none⟩))]).run Tryz.prog w = .ok (.agg (xc s.tick b 0 false 0).toArray) w := build_ex s.r.tick s.px b s.u
  clear h hg hX hO
  have tg1 : Hid True := trivial
  have tg2 : Hid True := trivial
  have tg3 : Hid True := trivial
  have p0 : (s.r.px : Int) = 0 := by omega
  clear hr
  go_enter Tryz.func21, Tryz.ntmps21
  go_wp2_with (first
    | ((with_reducible apply own_box HM); exact rfl; (conv => lhs; whnf); exact rfl; exact rfl; (first | (clear tg1 HM; intro w' g1 HM) | (clear tg2 HM; intro w' g2 HM) | (clear tg3 HM; intro w' g3 HM) | (clear tg4 HM; intro w' g4 HM) | (clear HM; intro w' g' HM)); all_goals skip) | ((with_reducible apply own_row HM); exact rfl; exact rfl; exact aggR; (with_reducible first | exact .z | exact .s .z | exact .s (.s .z) | exact .s (.s (.s .z)) | exact .s (.s (.s (.s .z)))); exact rfl; (first | exact Rg.cells_length _ | exact rfl); all_goals skip) | ((with_reducible apply own_get HM); exact rfl; exact rfl; (first | (with_reducible exact oneU8) | (with_reducible exact oneBool)); (first | exact .z | exact .s .z | exact .s (.s .z)); exact rfl; exact rfl; all_goals skip) | ((with_reducible apply own_alloc HM); exact rfl; (with_reducible exact zeroR); exact rfl; (first | (clear tg1; intro w' g1 HM') | (clear tg2; intro w' g2 HM') | (clear tg3; intro w' g3 HM') | intro w' g' HM'); clear HM; have HM := HM'; clear HM'; all_goals skip)
    | ((with_reducible apply own_lay HM); exact rfl; exact rfl; exact rfl; (first | exact .z | exact .s .z); (first | exact .z | exact .s .z); exact aggR.size; exact Rg.cells_length _; (first | exact Rg.cells_length _ | exact rfl); exact Rg.one1 _; exact rfl; exact rfl; clear HM; intro w' HM; all_goals skip))
  refine bodyPost_ret (v := .tuple #[(s).r.v, .int .i64 0]) (own_results2 HM Tryz.results21 _ rfl rfl (.z) aggR (Rg.cells_length _)) rfl ⟨rfl, Lib.hid ⟨HG.out.less (by omega), _, HX.out, HM.out.rest.rest⟩⟩
set_option maxRecDepth 100000 in
set_option maxHeartbeats 800000 in
theorem rin_no3 {W0 w : World} {b n : Nat} {s : Cs} {l : Blocks} (hp : s.r.px = 0) (h1 : s.r.q1 = true) (h2 : s.r.dl = true) (hr : s.r.Fits) (h : Hid (Fx W0 w b s.u l (n + 4))) :
    Calls Tryz.prog 21 #[s.r.v, .pointer (some ⟨b, 0, none⟩), .bool false, .bool true] w fun e w' => e = .returned (.tuple #[(s).r.v, .int .i64 0]) ∧ Hid (Fx W0 w' b (s).u l n) := by
  obtain ⟨hg, X, hX, hO⟩ := h.out
  have HG := Lib.hid hg
  have HX := Lib.hid hX
  have HM := Lib.hid hO
  have HR := Lib.hid hr
  have hbx : ∀ w, (Instr.build 72 #[(0, s.r.tick.v), (1, .pointer (some ⟨b, 0, none⟩))]).run Tryz.prog w = .ok (.agg (xc s.tick b 0 false 0).toArray) w := build_ex s.r.tick s.px b s.u
  clear h hg hX hO
  have tg1 : Hid True := trivial
  have tg2 : Hid True := trivial
  have tg3 : Hid True := trivial
  have p0 : (s.r.px : Int) = 0 := by omega
  clear hr
  go_enter Tryz.func21, Tryz.ntmps21
  go_wp2_with (first
    | ((with_reducible apply own_box HM); exact rfl; (conv => lhs; whnf); exact rfl; exact rfl; (first | (clear tg1 HM; intro w' g1 HM) | (clear tg2 HM; intro w' g2 HM) | (clear tg3 HM; intro w' g3 HM) | (clear tg4 HM; intro w' g4 HM) | (clear HM; intro w' g' HM)); all_goals skip) | ((with_reducible apply own_row HM); exact rfl; exact rfl; exact aggR; (with_reducible first | exact .z | exact .s .z | exact .s (.s .z) | exact .s (.s (.s .z)) | exact .s (.s (.s (.s .z)))); exact rfl; (first | exact Rg.cells_length _ | exact rfl); all_goals skip) | ((with_reducible apply own_get HM); exact rfl; exact rfl; (first | (with_reducible exact oneU8) | (with_reducible exact oneBool)); (first | exact .z | exact .s .z | exact .s (.s .z)); exact rfl; exact rfl; all_goals skip) | ((with_reducible apply own_alloc HM); exact rfl; (with_reducible exact zeroR); exact rfl; (first | (clear tg1; intro w' g1 HM') | (clear tg2; intro w' g2 HM') | (clear tg3; intro w' g3 HM') | intro w' g' HM'); clear HM; have HM := HM'; clear HM'; all_goals skip)
    | ((with_reducible apply own_lay HM); exact rfl; exact rfl; exact rfl; (first | exact .z | exact .s .z); (first | exact .z | exact .s .z); exact aggR.size; exact Rg.cells_length _; (first | exact Rg.cells_length _ | exact rfl); exact Rg.one1 _; exact rfl; exact rfl; clear HM; intro w' HM; all_goals skip))
  refine bodyPost_ret (v := .tuple #[(s).r.v, .int .i64 0]) (own_results2 HM Tryz.results21 _ rfl rfl (.z) aggR (Rg.cells_length _)) rfl ⟨rfl, Lib.hid ⟨HG.out.less (by omega), _, HX.out, HM.out.rest.rest⟩⟩
set_option maxRecDepth 100000 in
set_option maxHeartbeats 800000 in
theorem rin_pause {W0 w : World} {b n : Nat} {s : Cs} {l : Blocks} (line : Bool) (hp : s.r.px = 0) (hr : s.r.Fits) (h : Hid (Fx W0 w b s.u l (n + 4))) :
    Calls Tryz.prog 21 #[s.r.v, .pointer (some ⟨b, 0, none⟩), .bool true, .bool line] w fun e w' => e = .returned (.tuple #[((((s.setQ1 false).wake).push s.r.pc).goTo 102).r.v, .int .i64 11]) ∧ Hid (Fx W0 w' b ((((s.setQ1 false).wake).push s.r.pc).goTo 102).u l n) := by
  obtain ⟨hg, X, hX, hO⟩ := h.out
  have HG := Lib.hid hg
  have HX := Lib.hid hX
  have HM := Lib.hid hO
  have HR := Lib.hid hr
  have hbx : ∀ w, (Instr.build 72 #[(0, s.r.tick.v), (1, .pointer (some ⟨b, 0, none⟩))]).run Tryz.prog w = .ok (.agg (xc s.tick b 0 false 0).toArray) w := build_ex s.r.tick s.px b s.u
  clear h hg hX hO
  have tg1 : Hid True := trivial
  have tg2 : Hid True := trivial
  have tg3 : Hid True := trivial
  have p0 : (s.r.px : Int) = 0 := by omega
  obtain ⟨z, hz⟩ : ∃ z, Hid (s.r.pc = z) := ⟨_, rfl⟩
  have z1 : z < 65536 := by rw [← hz.out]; exact hr.pc
  have hz2 : Hid ((s.setQ1 false).wake.r.pc = z) := Lib.hid hz.out
  have hf1 : Hid (s.setQ1 false).wake.r.Fits := Lib.hid { Rg.tick_fits' hr with }
  rw [show ((s.setQ1 false).wake).push s.r.pc = ((s.setQ1 false).wake).push z by rw [hz.out]]
  clear hr
  go_enter Tryz.func21, Tryz.ntmps21
  go_wp2_with (first
    | ((with_reducible apply own_box HM); exact rfl; (conv => lhs; whnf); exact rfl; exact rfl; (first | (clear tg1 HM; intro w' g1 HM) | (clear tg2 HM; intro w' g2 HM) | (clear tg3 HM; intro w' g3 HM) | (clear tg4 HM; intro w' g4 HM) | (clear HM; intro w' g' HM)); all_goals skip) | ((with_reducible apply own_row HM); exact rfl; exact rfl; exact aggR; (with_reducible first | exact .z | exact .s .z | exact .s (.s .z) | exact .s (.s (.s .z)) | exact .s (.s (.s (.s .z)))); exact rfl; (first | exact Rg.cells_length _ | exact rfl); all_goals skip) | ((with_reducible apply own_get HM); exact rfl; exact rfl; (first | (with_reducible exact oneU8) | (with_reducible exact oneBool)); (first | exact .z | exact .s .z | exact .s (.s .z)); exact rfl; exact rfl; all_goals skip) | ((with_reducible apply own_alloc HM); exact rfl; (with_reducible exact zeroR); exact rfl; (first | (clear tg1; intro w' g1 HM') | (clear tg2; intro w' g2 HM') | (clear tg3; intro w' g3 HM') | intro w' g' HM'); clear HM; have HM := HM'; clear HM'; all_goals skip)
    | (go_at_call 27; (with_reducible refine (rtick_at s.r HR.out.r _).mono ?_); rintro e w' ⟨rfl, hb⟩; replace HM := Lib.hid (HM.out.call hb); clear hb)
    | ((with_reducible apply own_built2 hbx); exact rfl; exact rfl; exact rfl; exact rfl; all_goals skip)
    | ((with_reducible apply own_box HM (v := .agg (xc s.tick b 0 false 0).toArray) (vs := xc s.tick b 0 false 0)); exact rfl; exact rfl; exact rfl; exact rfl; clear tg3; intro w' g3 HM'; clear HM; have HM := HM'; clear HM'; all_goals skip)
    | ((with_reducible apply own_setc HM); exact rfl; exact rfl; exact rfl; exact .z; (first | exact xc_pc | exact xc_wz | exact xc_ht | exact xc_q1 | exact xc_q2); exact .z; (first | (with_reducible exact oneU16.size) | (with_reducible exact oneBool.size)); exact rfl; exact rfl; (rw [xc_length]; decide); exact rfl; clear HM; intro w' HM; all_goals skip))
  rw [Cs.wake_as] at HM
  have HF := hf1
  go_wp2_with (first
    | (go_at_call 35; have hco := Lib.hid (Ex.made (l := _ :: _ :: l) HM.out HG.out HX.out HF.out); (with_reducible refine (eget16_n z hz2.out hco).mono ?_); clear hco; rintro e w' ⟨rfl, hc⟩; clear HM HF HG HX; obtain ⟨HF, HG, X, HX, HM⟩ := hc.out.hid; clear hc)
    | (go_at_call 34; have hco := Lib.hid (Ex.made (l := _ :: _ :: l) HM.out HG.out HX.out HF.out); (with_reducible refine (epush_at z z1 hco).mono ?_); clear hco; rintro e w' ⟨rfl, hc⟩; clear HM HF HG HX; obtain ⟨HF, HG, X, HX, HM⟩ := hc.out.hid; clear hc)
    | (go_at_call 36; have hco := Lib.hid (Ex.made (l := _ :: _ :: l) HM.out HG.out HX.out HF.out); (with_reducible refine (eto_102 hco).mono ?_); clear hco; rintro e w' ⟨rfl, hc⟩; clear HM HF HG HX; obtain ⟨HF, HG, X, HX, HM⟩ := hc.out.hid; clear hc)
    | ((with_reducible apply own_load HM); exact rfl; exact rfl; (with_reducible exact aggR); exact .z; exact .z; exact xc_take29; exact rfl; all_goals skip)
    | ((with_reducible apply own_lay HM); exact rfl; exact rfl; exact rfl; (first | exact .z | exact .s .z); (first | exact .z | exact .s .z); exact aggR.size; exact Rg.cells_length _; (first | exact Rg.cells_length _ | exact rfl); exact Rg.one1 _; exact rfl; exact rfl; clear HM; intro w' HM; all_goals skip))
  refine bodyPost_ret (v := .tuple #[((((s.setQ1 false).wake).push z).goTo 102).r.v, .int .i64 11]) (own_results2 HM Tryz.results21 _ rfl rfl (.s .z) aggR (Rg.cells_length _)) rfl ⟨rfl, Lib.hid ⟨HG.out.less (by omega), _, HX.out, HM.out.rest.rest.rest⟩⟩
set_option maxRecDepth 100000 in
set_option maxHeartbeats 800000 in
theorem rin_line {W0 w : World} {b n : Nat} {s : Cs} {l : Blocks} (hp : s.r.px = 0) (h1 : s.r.q1 = true) (h2 : s.r.dl = false) (hi : ¬ s.r.im = 2) (z : Nat) (hz : Hid (s.r.pc = z)) (hr : s.r.Fits) (h : Hid (Fx W0 w b s.u l (n + 4))) :
    Calls Tryz.prog 21 #[s.r.v, .pointer (some ⟨b, 0, none⟩), .bool false, .bool true] w fun e w' => e = .returned (.tuple #[(((((s.setQ1 false).wake).push z).setQ2 false).goTo 56).r.v, .int .i64 13]) ∧ Hid (Fx W0 w' b (((((s.setQ1 false).wake).push z).setQ2 false).goTo 56).u l n) := by
  obtain ⟨hg, X, hX, hO⟩ := h.out
  have HG := Lib.hid hg
  have HX := Lib.hid hX
  have HM := Lib.hid hO
  have HR := Lib.hid hr
  have hbx : ∀ w, (Instr.build 72 #[(0, s.r.tick.v), (1, .pointer (some ⟨b, 0, none⟩))]).run Tryz.prog w = .ok (.agg (xc s.tick b 0 false 0).toArray) w := build_ex s.r.tick s.px b s.u
  clear h hg hX hO
  have tg1 : Hid True := trivial
  have tg2 : Hid True := trivial
  have tg3 : Hid True := trivial
  have p0 : (s.r.px : Int) = 0 := by omega
  have z1 : z < 65536 := by rw [← hz.out]; exact hr.pc
  have hz2 : Hid ((s.setQ1 false).wake.r.pc = z) := Lib.hid hz.out
  have hf1 : Hid (s.setQ1 false).wake.r.Fits := Lib.hid { Rg.tick_fits' hr with }
  have i2 : ((s.r.im : Int) == 2) = false := by simp; omega
  clear hr
  go_enter Tryz.func21, Tryz.ntmps21
  go_wp2_with (first
    | ((with_reducible apply own_box HM); exact rfl; (conv => lhs; whnf); exact rfl; exact rfl; (first | (clear tg1 HM; intro w' g1 HM) | (clear tg2 HM; intro w' g2 HM) | (clear tg3 HM; intro w' g3 HM) | (clear tg4 HM; intro w' g4 HM) | (clear HM; intro w' g' HM)); all_goals skip) | ((with_reducible apply own_row HM); exact rfl; exact rfl; exact aggR; (with_reducible first | exact .z | exact .s .z | exact .s (.s .z) | exact .s (.s (.s .z)) | exact .s (.s (.s (.s .z)))); exact rfl; (first | exact Rg.cells_length _ | exact rfl); all_goals skip) | ((with_reducible apply own_get HM); exact rfl; exact rfl; (first | (with_reducible exact oneU8) | (with_reducible exact oneBool)); (first | exact .z | exact .s .z | exact .s (.s .z)); exact rfl; exact rfl; all_goals skip) | ((with_reducible apply own_alloc HM); exact rfl; (with_reducible exact zeroR); exact rfl; (first | (clear tg1; intro w' g1 HM') | (clear tg2; intro w' g2 HM') | (clear tg3; intro w' g3 HM') | intro w' g' HM'); clear HM; have HM := HM'; clear HM'; all_goals skip)
    | (go_at_call 27; (with_reducible refine (rtick_at s.r HR.out.r _).mono ?_); rintro e w' ⟨rfl, hb⟩; replace HM := Lib.hid (HM.out.call hb); clear hb)
    | ((with_reducible apply own_built2 hbx); exact rfl; exact rfl; exact rfl; exact rfl; all_goals skip)
    | ((with_reducible apply own_box HM (v := .agg (xc s.tick b 0 false 0).toArray) (vs := xc s.tick b 0 false 0)); exact rfl; exact rfl; exact rfl; exact rfl; clear tg3; intro w' g3 HM'; clear HM; have HM := HM'; clear HM'; all_goals skip)
    | ((with_reducible apply own_setc HM); exact rfl; exact rfl; exact rfl; exact .z; (first | exact xc_pc | exact xc_wz | exact xc_ht | exact xc_q1 | exact xc_q2); exact .z; (first | (with_reducible exact oneU16.size) | (with_reducible exact oneBool.size)); exact rfl; exact rfl; (rw [xc_length]; decide); exact rfl; clear HM; intro w' HM; all_goals skip))
  rw [Cs.wake_as] at HM
  have HF := hf1
  go_wp2_with (first
    | (go_at_call 35; have hco := Lib.hid (Ex.made (l := _ :: _ :: l) HM.out HG.out HX.out HF.out); (with_reducible refine (eget16_n z hz2.out hco).mono ?_); clear hco; rintro e w' ⟨rfl, hc⟩; clear HM HF HG HX; obtain ⟨HF, HG, X, HX, HM⟩ := hc.out.hid; clear hc)
    | (go_at_call 34; have hco := Lib.hid (Ex.made (l := _ :: _ :: l) HM.out HG.out HX.out HF.out); (with_reducible refine (epush_at z z1 hco).mono ?_); clear hco; rintro e w' ⟨rfl, hc⟩; clear HM HF HG HX; obtain ⟨HF, HG, X, HX, HM⟩ := hc.out.hid; clear hc)
    | ((with_reducible apply own_setc HM); exact rfl; exact rfl; exact rfl; exact .z; (first | exact xc_pc | exact xc_wz | exact xc_ht | exact xc_q1 | exact xc_q2); exact .z; (first | (with_reducible exact oneU16.size) | (with_reducible exact oneBool.size)); exact rfl; exact rfl; (rw [xc_length]; decide); exact rfl; clear HM; intro w' HM; all_goals skip))
  have hff : Hid ((((s.setQ1 false).wake).push z).setQ2 false).r.Fits := Lib.hid { HF.out with }
  clear HF; have HF := hff; clear hff
  go_wp2_with (first
    | (go_at_call 36; have hco := Lib.hid (Ex.made (l := _ :: _ :: l) HM.out HG.out HX.out HF.out); (with_reducible refine (eto_56 hco).mono ?_); clear hco; rintro e w' ⟨rfl, hc⟩; clear HM HF HG HX; obtain ⟨HF, HG, X, HX, HM⟩ := hc.out.hid; clear hc)
    | ((with_reducible apply own_get HM); exact rfl; exact rfl; (first | (with_reducible exact oneU8) | (with_reducible exact oneBool)); (first | exact .s (.s .z)); exact rfl; exact rfl; all_goals skip)
    | ((with_reducible apply own_load HM); exact rfl; exact rfl; (with_reducible exact aggR); exact .z; exact .z; exact xc_take29; exact rfl; all_goals skip)
    | ((with_reducible apply own_lay HM); exact rfl; exact rfl; exact rfl; (first | exact .z | exact .s .z); (first | exact .z | exact .s .z); exact aggR.size; exact Rg.cells_length _; (first | exact Rg.cells_length _ | exact rfl); exact Rg.one1 _; exact rfl; exact rfl; clear HM; intro w' HM; all_goals skip))
  refine bodyPost_ret (v := .tuple #[(((((s.setQ1 false).wake).push z).setQ2 false).goTo 56).r.v, .int .i64 13]) (own_results2 HM Tryz.results21 _ rfl rfl (.s .z) aggR (Rg.cells_length _)) rfl ⟨rfl, Lib.hid ⟨HG.out.less (by omega), _, HX.out, HM.out.rest.rest.rest⟩⟩
set_option maxRecDepth 100000 in
set_option maxHeartbeats 800000 in
theorem rin_line2 {W0 w : World} {b n : Nat} {s : Cs} {l : Blocks} (hp : s.r.px = 0) (h1 : s.r.q1 = true) (h2 : s.r.dl = false) (hi : s.r.im = 2) (z : Nat) (hz : Hid (s.r.pc = z)) (hr : s.r.Fits) (h : Hid (Fx W0 w b s.u l (n + 4))) :
    Calls Tryz.prog 21 #[s.r.v, .pointer (some ⟨b, 0, none⟩), .bool false, .bool true] w fun e w' => e = .returned (.tuple #[(((((((s.setQ1 false).wake).push z).setQ2 false).goTo 56).num (s.r.i * 256 + 255)).goTo ((((((s.setQ1 false).wake).push z).setQ2 false).goTo 56).numV (s.r.i * 256 + 255))).r.v, .int .i64 19]) ∧ Hid (Fx W0 w' b (((((((s.setQ1 false).wake).push z).setQ2 false).goTo 56).num (s.r.i * 256 + 255)).goTo ((((((s.setQ1 false).wake).push z).setQ2 false).goTo 56).numV (s.r.i * 256 + 255))).u l n) := by
  obtain ⟨hg, X, hX, hO⟩ := h.out
  have HG := Lib.hid hg
  have HX := Lib.hid hX
  have HM := Lib.hid hO
  have HR := Lib.hid hr
  have hbx : ∀ w, (Instr.build 72 #[(0, s.r.tick.v), (1, .pointer (some ⟨b, 0, none⟩))]).run Tryz.prog w = .ok (.agg (xc s.tick b 0 false 0).toArray) w := build_ex s.r.tick s.px b s.u
  clear h hg hX hO
  have tg1 : Hid True := trivial
  have tg2 : Hid True := trivial
  have tg3 : Hid True := trivial
  have p0 : (s.r.px : Int) = 0 := by omega
  have z1 : z < 65536 := by rw [← hz.out]; exact hr.pc
  have hz2 : Hid ((s.setQ1 false).wake.r.pc = z) := Lib.hid hz.out
  have hf1 : Hid (s.setQ1 false).wake.r.Fits := Lib.hid { Rg.tick_fits' hr with }
  have i2 : ((s.r.im : Int) == 2) = true := by rw [hi]; rfl
  have v1 : s.r.i < 256 := hr.i
  obtain ⟨a, ha⟩ : ∃ a, Hid (s.r.i * 256 + 255 = a) := ⟨_, rfl⟩
  have a1 : a < 65536 := by rw [← ha.out]; omega
  have ea : (s.r.i : Int) * 256 + 255 = (a : Int) := by rw [← ha.out]; omega
  rw [ha.out]
  obtain ⟨r, hrr⟩ : ∃ r, Hid ((((((s.setQ1 false).wake).push z).setQ2 false).goTo 56).numV a = r) := ⟨_, rfl⟩
  rw [hrr.out]
  clear hr
  go_enter Tryz.func21, Tryz.ntmps21
  go_wp2_with (first
    | ((with_reducible apply own_box HM); exact rfl; (conv => lhs; whnf); exact rfl; exact rfl; (first | (clear tg1 HM; intro w' g1 HM) | (clear tg2 HM; intro w' g2 HM) | (clear tg3 HM; intro w' g3 HM) | (clear tg4 HM; intro w' g4 HM) | (clear HM; intro w' g' HM)); all_goals skip) | ((with_reducible apply own_row HM); exact rfl; exact rfl; exact aggR; (with_reducible first | exact .z | exact .s .z | exact .s (.s .z) | exact .s (.s (.s .z)) | exact .s (.s (.s (.s .z)))); exact rfl; (first | exact Rg.cells_length _ | exact rfl); all_goals skip) | ((with_reducible apply own_get HM); exact rfl; exact rfl; (first | (with_reducible exact oneU8) | (with_reducible exact oneBool)); (first | exact .z | exact .s .z | exact .s (.s .z)); exact rfl; exact rfl; all_goals skip) | ((with_reducible apply own_alloc HM); exact rfl; (with_reducible exact zeroR); exact rfl; (first | (clear tg1; intro w' g1 HM') | (clear tg2; intro w' g2 HM') | (clear tg3; intro w' g3 HM') | intro w' g' HM'); clear HM; have HM := HM'; clear HM'; all_goals skip)
    | (go_at_call 27; (with_reducible refine (rtick_at s.r HR.out.r _).mono ?_); rintro e w' ⟨rfl, hb⟩; replace HM := Lib.hid (HM.out.call hb); clear hb)
    | ((with_reducible apply own_built2 hbx); exact rfl; exact rfl; exact rfl; exact rfl; all_goals skip)
    | ((with_reducible apply own_box HM (v := .agg (xc s.tick b 0 false 0).toArray) (vs := xc s.tick b 0 false 0)); exact rfl; exact rfl; exact rfl; exact rfl; clear tg3; intro w' g3 HM'; clear HM; have HM := HM'; clear HM'; all_goals skip)
    | ((with_reducible apply own_setc HM); exact rfl; exact rfl; exact rfl; exact .z; (first | exact xc_pc | exact xc_wz | exact xc_ht | exact xc_q1 | exact xc_q2); exact .z; (first | (with_reducible exact oneU16.size) | (with_reducible exact oneBool.size)); exact rfl; exact rfl; (rw [xc_length]; decide); exact rfl; clear HM; intro w' HM; all_goals skip))
  rw [Cs.wake_as] at HM
  have HF := hf1
  go_wp2_with (first
    | (go_at_call 35; have hco := Lib.hid (Ex.made (l := _ :: _ :: l) HM.out HG.out HX.out HF.out); (with_reducible refine (eget16_n z hz2.out hco).mono ?_); clear hco; rintro e w' ⟨rfl, hc⟩; clear HM HF HG HX; obtain ⟨HF, HG, X, HX, HM⟩ := hc.out.hid; clear hc)
    | (go_at_call 34; have hco := Lib.hid (Ex.made (l := _ :: _ :: l) HM.out HG.out HX.out HF.out); (with_reducible refine (epush_at z z1 hco).mono ?_); clear hco; rintro e w' ⟨rfl, hc⟩; clear HM HF HG HX; obtain ⟨HF, HG, X, HX, HM⟩ := hc.out.hid; clear hc)
    | ((with_reducible apply own_setc HM); exact rfl; exact rfl; exact rfl; exact .z; (first | exact xc_pc | exact xc_wz | exact xc_ht | exact xc_q1 | exact xc_q2); exact .z; (first | (with_reducible exact oneU16.size) | (with_reducible exact oneBool.size)); exact rfl; exact rfl; (rw [xc_length]; decide); exact rfl; clear HM; intro w' HM; all_goals skip))
  have hff : Hid ((((s.setQ1 false).wake).push z).setQ2 false).r.Fits := Lib.hid { HF.out with }
  clear HF; have HF := hff; clear hff
  go_wp2_with (first
    | (go_at_call 36; have hco := Lib.hid (Ex.made (l := _ :: _ :: l) HM.out HG.out HX.out HF.out); (with_reducible refine (eto_56 hco).mono ?_); clear hco; rintro e w' ⟨rfl, hc⟩; clear HM HF HG HX; obtain ⟨HF, HG, X, HX, HM⟩ := hc.out.hid; clear hc)
    | ((with_reducible apply own_get HM); exact rfl; exact rfl; (first | (with_reducible exact oneU8) | (with_reducible exact oneBool)); (first | exact .s (.s .z)); exact rfl; exact rfl; all_goals skip))
  have r1 : r < 65536 := by rw [← hrr.out]; exact Nat.lt_of_lt_of_le (Nat.add_lt_add_of_le_of_lt (Nat.mul_le_mul_right 256 (Nat.le_of_lt_succ (HG.out.1 (up1 a)))) (HG.out.1 a)) (by decide)
  go_wp2_with (first
    | (go_at_call 37; have hco := Lib.hid (Ex.made (l := _ :: _ :: l) HM.out HG.out HX.out HF.out); (with_reducible refine (eload_n a r a1 hrr.out hco).mono ?_); clear hco; rintro e w' ⟨rfl, hc⟩; clear HM HF HG HX; obtain ⟨HF, HG, X, HX, HM⟩ := hc.out.hid; clear hc)
    | (go_at_call 36; have hco := Lib.hid (Ex.made (l := _ :: _ :: l) HM.out HG.out HX.out HF.out); (with_reducible refine (eto_at r r1 hco).mono ?_); clear hco; rintro e w' ⟨rfl, hc⟩; clear HM HF HG HX; obtain ⟨HF, HG, X, HX, HM⟩ := hc.out.hid; clear hc)
    | ((with_reducible apply own_load HM); exact rfl; exact rfl; (with_reducible exact aggR); exact .z; exact .z; exact xc_take29; exact rfl; all_goals skip)
    | ((with_reducible apply own_lay HM); exact rfl; exact rfl; exact rfl; (first | exact .z | exact .s .z); (first | exact .z | exact .s .z); exact aggR.size; exact Rg.cells_length _; (first | exact Rg.cells_length _ | exact rfl); exact Rg.one1 _; exact rfl; exact rfl; clear HM; intro w' HM; all_goals skip))
  refine bodyPost_ret (v := .tuple #[(((((((s.setQ1 false).wake).push z).setQ2 false).goTo 56).num a).goTo r).r.v, .int .i64 19]) (own_results2 HM Tryz.results21 _ rfl rfl (.s .z) aggR (Rg.cells_length _)) rfl ⟨rfl, Lib.hid ⟨HG.out.less (by omega), _, HX.out, HM.out.rest.rest.rest⟩⟩
end Go.Proofs.YtljjgakfnajifaaGreatDoor
