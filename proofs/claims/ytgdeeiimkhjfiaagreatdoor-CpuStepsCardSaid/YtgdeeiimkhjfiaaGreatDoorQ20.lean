import Derived.Test.YtgdeeiimkhjfiaaGreatDoorQ19
set_option maxRecDepth 100000
set_option maxHeartbeats 6400000
namespace Go.Proofs.YtgdeeiimkhjfiaaGreatDoor
open Go.RowKit
section
variable {W0 w : World} {x b tq n c : Nat} {s : Cs} {ix : Bool} {pg : Int} {l : Blocks}
theorem oneWp : One Tryz.prog 31 := ⟨⟨_, Tryz.underlying31, rfl⟩, by kernel_rfl⟩
def xc (s : Cs) (b tq : Nat) (ix : Bool) (pg : Int) : List Value := s.r.cells ++ [.pointer (some ⟨b, 0, none⟩), .int .u16 (tq : Int), .bool ix, .int .i64 pg]
theorem Xs.drop0 (s : Cs) (x : Nat × Nat × Bool × Int) : Drop (xc s x.1 x.2.1 x.2.2.1 x.2.2.2) 0 (xc s x.1 x.2.1 x.2.2.1 x.2.2.2) := .z
section
variable {s : Cs} {b tq : Nat} {ix : Bool} {pg : Int}
theorem xc_take29 : Take (xc s b tq ix pg) 29 s.r.cells := by unfold xc Rg.cells; repeat' first | exact .z | apply Take.s
theorem xc_over29 (r : Rg) : Over (xc s b tq ix pg) 0 r.cells (xc (s.setR r) b tq ix pg) := by unfold xc Rg.cells Cs.setR; repeat' first | exact .z | apply Over.p
theorem xc_pc {v : Nat} : (xc s b tq ix pg).set 19 (.int .u16 (v : Int)) = xc (s.setPC v) b tq ix pg := rfl
theorem xc_wz {v : Nat} : (xc s b tq ix pg).set 20 (.int .u16 (v : Int)) = xc (s.setWZ v) b tq ix pg := rfl
theorem xc_ht {v : Bool} : (xc s b tq ix pg).set 27 (.bool v) = xc (s.setHT v) b tq ix pg := rfl
theorem xc_q1 {v : Bool} : (xc s b tq ix pg).set 25 (.bool v) = xc (s.setQ1 v) b tq ix pg := rfl
theorem xc_q2 {v : Bool} : (xc s b tq ix pg).set 26 (.bool v) = xc (s.setQ2 v) b tq ix pg := rfl
theorem xc_length : (xc s b tq ix pg).length = 33 := rfl
end
structure Ex (W0 w : World) (x b : Nat) (s : Cs) (tq : Nat) (ix : Bool) (pg : Int) (l : Blocks) (n : Nat) : Prop where
 fits : s.r.Fits
 fx : Fx W0 w b s.u ((x, 58, xc s b tq ix pg) :: l) n
section
variable {W0 w : World} {x b tq n : Nat} {s : Cs} {ix : Bool} {pg : Int} {l X : Blocks}
theorem Ex.hid (h : Ex W0 w x b s tq ix pg l n) : ∃ _ : Hid s.r.Fits, ∃ _ : Hid (s.u.Good n), ∃ X, ∃ _ : Hid (IsFlat X b s.u), Hid (Own W0 w ((x, 58, xc s b tq ix pg) :: (l ++ X))) := by
 obtain ⟨hf, hg, X, hX, hO⟩ := h
 exact ⟨hf, hg, X, hX, hO⟩
theorem Ex.made (h : Own W0 w ((x, 58, xc s b tq ix pg) :: (l ++ X))) (hg : s.u.Good n) (hX : IsFlat X b s.u) (hf : s.r.Fits) : Ex W0 w x b s tq ix pg l n := ⟨hf, hg, X, hX, h⟩
end
theorem eget_SP (h : Hid (Ex W0 w x b (s) tq ix pg l n)) :
  CX 22 #[.pointer (some ⟨x, 0, none⟩), .string ⟨#[83, 80]⟩] w (.int .i64 (s.r.sp : Int)) fun w' => Hid (Ex W0 w' x b (s) tq ix pg l n) := by
 obtain ⟨HF, HG, X, HX, HM⟩ := h.out.hid
 clear h
 have hsp := HF.out.sp
 go_enter Tryz.func22, Tryz.ntmps22
 go_wp2_with (first | refine a25 ?_ | (go_at_call 43; (with_reducible refine (rget_SP s.r hsp _).mono ?_); rintro e w' ⟨rfl, hb⟩; replace HM := Lib.hid (HM.out.call hb); clear hb))
 go_ret
 exact ⟨rfl, Lib.hid (Ex.made HM.out HG.out HX.out HF.out)⟩
theorem eget_SPn (z : Nat) (hz : Hid (s.r.sp = z)) (h : Hid (Ex W0 w x b (s) tq ix pg l n)) :
  CX 22 #[.pointer (some ⟨x, 0, none⟩), .string ⟨#[83, 80]⟩] w (.int .i64 (z : Int)) fun w' => Hid (Ex W0 w' x b (s) tq ix pg l n) := by
 rw [← hz.out]; exact eget_SP h
theorem eset_SP (z t : Int) (v : Nat) (hv : v < 65536) (h1 : z.tmod 65536 = t) (h2 : (t + 65536).tmod 65536 = (v : Int)) (ht : -65536 < t ∧ t < 65536) (h : Hid (Ex W0 w x b (s) tq ix pg l n)) :
  CX 49 #[.pointer (some ⟨x, 0, none⟩), .string ⟨#[83, 80]⟩, .int .i64 z] w (.tuple #[]) fun w' => Hid (Ex W0 w' x b (s.setSP v) tq ix pg l n) := by
 obtain ⟨HF, HG, X, HX, HM⟩ := h.out.hid
 clear h
 have t1 := ht.1
 have t2 := ht.2
 clear ht
 go_enter Tryz.func49, Tryz.ntmps49
 go_wp2_with (first | refine a25 ?_ | (go_at_call 99; (with_reducible refine (rset_SP s.r v hv _).mono ?_); rintro e w' ⟨rfl, hb⟩; replace HM := Lib.hid (HM.out.call hb); clear hb) | ((with_reducible apply own_store HM); exact rfl; exact rfl; (conv => lhs; whnf); exact rfl; exact .z; exact xc_over29 _; exact .z; exact aggR.size; exact Rg.cells_length _; exact Rg.one1 _; exact rfl; exact rfl; clear HM; intro w' HM))
 (first | go_end0 | ((try simp only [Exit.inBlock, Exit.then]); refine bodyPost_ret (results_none rfl _ _ _) rfl ?_))
 have hf : (s.setSP v).r.Fits := { HF.out with sp := hv }
 exact ⟨rfl, Lib.hid (Ex.made HM.out HG.out HX.out hf)⟩
theorem eget16_at (h : Hid (Ex W0 w x b (s) tq ix pg l n)) :
  CX 26 #[.pointer (some ⟨x, 0, none⟩)] w (.int .i64 (s.r.pc : Int)) fun w' => Hid (Ex W0 w' x b (s) tq ix pg l n) := by
 obtain ⟨HF, HG, X, HX, HM⟩ := h.out.hid
 clear h
 have hpc := HF.out.pc
 go_enter Tryz.func26, Tryz.ntmps26
 go_wp2_with (first | ((with_reducible apply own_get HM); exact rfl; exact rfl; exact xS; exact .z; exact rfl; exact rfl))
 go_ret
 exact ⟨rfl, Lib.hid (Ex.made HM.out HG.out HX.out HF.out)⟩
theorem eto_at (a : Nat) (ha : a < 65536) (h : Hid (Ex W0 w x b (s) tq ix pg l n)) :
  CX 27 #[.pointer (some ⟨x, 0, none⟩), .int .i64 (a : Int)] w (.tuple #[]) fun w' => Hid (Ex W0 w' x b (s.goTo a) tq ix pg l n) := by
 obtain ⟨HF, HG, X, HX, HM⟩ := h.out.hid
 clear h
 go_enter Tryz.func27, Tryz.ntmps27
 go_wp2_with (first | ((with_reducible apply own_setc HM); exact rfl; exact rfl; exact rfl; exact .z; (first | exact xc_pc | exact xc_wz | exact xc_ht | exact xc_q1 | exact xc_q2); exact .z; (first | (with_reducible exact oneU16.size) | (with_reducible exact oneBool.size)); exact rfl; exact rfl; (rw [xc_length]; decide); exact rfl; clear HM; intro w' HM))
 (first | go_end0 | ((try simp only [Exit.inBlock, Exit.then]); refine bodyPost_ret (results_none rfl _ _ _) rfl ?_))
 have hf : (s.goTo a).r.Fits := { HF.out with pc := ha, wz := ha }
 exact ⟨rfl, Lib.hid (Ex.made HM.out HG.out HX.out hf)⟩
theorem ewrite_at (a v : Nat) (ha : a < 65536) (hv : v < 256) (h : Hid (Ex W0 w x b (s) tq ix pg l (n + 1))) :
  CX 59 #[.pointer (some ⟨b, 0, none⟩), .int .u16 (a : Int), .int .u8 (v : Int)] w (.tuple #[]) fun w' => Hid (Ex W0 w' x b (s.wr a v) tq ix pg l n) :=
 (flat_write a v ha hv (Lib.hid h.out.fx)).mono fun _ _ ⟨he, hf⟩ => ⟨he, Lib.hid ⟨h.out.fits, hf.out⟩⟩
theorem eread_at (a : Nat) (ha : a < 65536) (h : Hid (Ex W0 w x b (s) tq ix pg l (n + 1))) :
  CX 36 #[.pointer (some ⟨b, 0, none⟩), .int .u16 (a : Int)] w (.int .u8 (s.m a : Int)) fun w' => Hid (Ex W0 w' x b (s.rd a) tq ix pg l n) :=
 (flat_read a ha (Lib.hid h.out.fx)).mono fun _ _ ⟨he, hf⟩ => ⟨he, Lib.hid ⟨h.out.fits, hf.out⟩⟩
theorem eread_n (a v : Nat) (ha : a < 65536) (hv : s.m a = v) (h : Hid (Ex W0 w x b (s) tq ix pg l (n + 1))) :
  CX 36 #[.pointer (some ⟨b, 0, none⟩), .int .u16 (a : Int)] w (.int .u8 (v : Int)) fun w' => Hid (Ex W0 w' x b (s.rd a) tq ix pg l n) := by
 subst hv; exact eread_at a ha h
theorem tm_dn (p q : Nat) (hp : p < 65536) (hq : Hid (dn1 p = q)) : ∃ t : Int, ((p : Int) - 1).tmod 65536 = t ∧ (t + 65536).tmod 65536 = (q : Int) ∧ -65536 < t ∧ t < 65536 := by
 have e := hq.out
 unfold dn1 at e
 by_cases h0 : p = 0
 ·subst h0
  refine ⟨-1, rfl, ?_, by decide, by decide⟩
  rw [← e]; rfl
 ·refine ⟨(p : Int) - 1, ?_, ?_, by omega, by omega⟩
  ·rw [Int.tmod_eq_emod_of_nonneg (by omega)]; omega
  ·rw [Int.tmod_eq_emod_of_nonneg (by omega)]; omega
theorem ejoin_at (h l v : Nat) (hh : h < 256) (hl : l < 256) (hv : h * 256 + l = v) (w : World) :
  CW 60 #[.int .u8 (h : Int), .int .u8 (l : Int)] w (.int .u16 (v : Int)) := by
 subst hv
 go_enter Tryz.func60, Tryz.ntmps60
 go_wp2
 go_ret
 refine ⟨?_, rfl⟩
 simp only [Int.natCast_add, Int.natCast_mul, Int.cast_ofNat_Int]
 rfl
theorem epush_at (v : Nat) (hv : v < 65536) (h : Hid (Ex W0 w x b (s) tq ix pg l (n + 2))) :
  CX 25 #[.pointer (some ⟨x, 0, none⟩), .int .i64 (v : Int)] w (.tuple #[]) fun w' => Hid (Ex W0 w' x b (s.push v) tq ix pg l n) := by
 obtain ⟨HF, HG, X, HX, HM⟩ := h.out.hid
 obtain ⟨lo, hlo⟩ : ∃ x, Hid (v % 256 = x) := ⟨_, rfl⟩
 obtain ⟨hi, hhi⟩ : ∃ x, Hid (wHigh v = x) := ⟨_, rfl⟩
 have h1 : lo < 256 := by rw [← hlo.out]; exact Nat.mod_lt _ (by decide)
 have h2 : hi < 256 := by rw [← hhi.out]; exact wHigh_lt v hv
 obtain ⟨z, hz⟩ : ∃ x, Hid (s.r.sp = x) := ⟨_, rfl⟩
 obtain ⟨p, hp⟩ : ∃ x, Hid (dn1 z = x) := ⟨_, rfl⟩
 obtain ⟨q, hq⟩ : ∃ x, Hid (dn1 p = x) := ⟨_, rfl⟩
 have z1 : z < 65536 := by rw [← hz.out]; exact HF.out.sp
 have p1 : p < 65536 := by rw [← hp.out]; exact dn1_lt _
 have q1 : q < 65536 := by rw [← hq.out]; exact dn1_lt _
 have E : s.push v = (((s.setSP p).wr p hi).setSP q).wr q lo := by unfold Cs.push; rw [hlo.out, hhi.out, hz.out, hp.out, hq.out]
 rw [E]
 obtain ⟨t, ht1, ht2, ht3⟩ := tm_dn z p z1 hp
 obtain ⟨y, hy1, hy2, hy3⟩ := tm_dn p q p1 hq
 have Ht1 := Lib.hid ht1
 have Ht2 := Lib.hid ht2
 have Ht3 := Lib.hid ht3
 have Hy1 := Lib.hid hy1
 have Hy2 := Lib.hid hy2
 have Hy3 := Lib.hid hy3
 clear ht1 ht2 ht3 hy1 hy2 hy3
 have w1 : wHigh v = v / 256 := rfl
 have e1 : (v : Int) / 256 = (hi : Int) := by rw [← hhi.out, w1]; omega
 have e2 : (v : Int) % 256 = (lo : Int) := by rw [← hlo.out]; omega
 have e3 : (v : Int).tdiv 256 = (hi : Int) := by rw [Int.tdiv_eq_ediv_of_nonneg (by omega)]; exact e1
 have e4 : (v : Int).tmod 256 = (lo : Int) := by rw [Int.tmod_eq_emod_of_nonneg (by omega)]; exact e2
 clear w1
 clear E h
 go_enter Tryz.func25, Tryz.ntmps25
 go_upto_region 1 with (first | (go_at_call 22; have hco := Lib.hid (Ex.made HM.out HG.out HX.out HF.out); (with_reducible refine (eget_SPn z hz hco).mono ?_); clear hco; rintro e w' ⟨rfl, hc⟩; clear HM HF HG HX; obtain ⟨HF, HG, X, HX, HM⟩ := hc.out.hid; clear hc) | (go_at_call 49; have hco := Lib.hid (Ex.made HM.out HG.out HX.out HF.out); (with_reducible refine (eset_SP _ t p p1 Ht1.out Ht2.out Ht3.out hco).mono ?_); clear hco; rintro e w' ⟨rfl, hc⟩; clear HM HF HG HX; obtain ⟨HF, HG, X, HX, HM⟩ := hc.out.hid; clear hc))
 (refine own_tail 12 HM (by kernel_rfl) (by kernel_rfl) (by kernel_rfl) ?_; simp only [List.take_succ_cons, List.take_zero, List.drop_succ_cons, List.drop_zero]; (try simp only [Act.put, List.setIfInBounds_toArray, List.set_cons_zero, List.set_cons_succ]); repeat ((fail_if_success (with_reducible refine wpQuiet_nil ?_)); first | go_big_quiet_skip | (go_big_quiet_want; first | (refine a17 ?_; go_big_quiet_op; go_big_quiet_on) | (refine a18 ?_; go_big_quiet_op; go_big_quiet_on) | (go_big_quiet_op; go_big_quiet_on) | (go_big_quiet_op; refine ⟨_, fun _ _ => rfl, ?_⟩; go_big_quiet_on))))
 refine wpQuiet_nil ?_
 intro w' HM'
 clear HM; have HM := HM'; clear HM'
 go_upto_region 3 with (first | (go_at_call 59; have hco := Lib.hid (Ex.made HM.out HG.out HX.out HF.out); (with_reducible refine (ewrite_at p hi p1 h2 hco).mono ?_); clear hco; rintro e w' ⟨rfl, hc⟩; clear HM HF HG HX; obtain ⟨HF, HG, X, HX, HM⟩ := hc.out.hid; clear hc) | (go_at_call 22; have hco := Lib.hid (Ex.made HM.out HG.out HX.out HF.out); (with_reducible refine (eget_SPn p (by exact Lib.hid rfl) hco).mono ?_); clear hco; rintro e w' ⟨rfl, hc⟩; clear HM HF HG HX; obtain ⟨HF, HG, X, HX, HM⟩ := hc.out.hid; clear hc) | (go_at_call 49; have hco := Lib.hid (Ex.made HM.out HG.out HX.out HF.out); (with_reducible refine (eset_SP _ y q q1 Hy1.out Hy2.out Hy3.out hco).mono ?_); clear hco; rintro e w' ⟨rfl, hc⟩; clear HM HF HG HX; obtain ⟨HF, HG, X, HX, HM⟩ := hc.out.hid; clear hc))
 (refine own_tail 12 HM (by kernel_rfl) (by kernel_rfl) (by kernel_rfl) ?_; simp only [List.take_succ_cons, List.take_zero, List.drop_succ_cons, List.drop_zero]; (try simp only [Act.put, List.setIfInBounds_toArray, List.set_cons_zero, List.set_cons_succ]); repeat ((fail_if_success (with_reducible refine wpQuiet_nil ?_)); first | go_big_quiet_skip | (go_big_quiet_want; first | (refine a17 ?_; go_big_quiet_op; go_big_quiet_on) | (refine a18 ?_; go_big_quiet_op; go_big_quiet_on) | (go_big_quiet_op; go_big_quiet_on) | (go_big_quiet_op; refine ⟨_, fun _ _ => rfl, ?_⟩; go_big_quiet_on))))
 refine wpQuiet_nil ?_
 intro w' HM'
 clear HM; have HM := HM'; clear HM'
 go_wp2_with (first | (go_at_call 59; have hco := Lib.hid (Ex.made HM.out HG.out HX.out HF.out); (with_reducible refine (ewrite_at q lo q1 h1 hco).mono ?_); clear hco; rintro e w' ⟨rfl, hc⟩; clear HM HF HG HX; obtain ⟨HF, HG, X, HX, HM⟩ := hc.out.hid; clear hc))
 (first | go_end0 | ((try simp only [Exit.inBlock, Exit.then]); refine bodyPost_ret (results_none rfl _ _ _) rfl ?_))
 exact ⟨rfl, Lib.hid (Ex.made HM.out HG.out HX.out HF.out)⟩
theorem eload_at (a : Nat) (ha : a < 65536) (h : Hid (Ex W0 w x b (s) tq ix pg l (n + 2))) :
  CX 28 #[.pointer (some ⟨x, 0, none⟩), .int .i64 (a : Int)] w (.int .i64 (s.numV a : Int)) fun w' => Hid (Ex W0 w' x b (s.num a) tq ix pg l n) := by
 obtain ⟨HF, HG, X, HX, HM⟩ := h.out.hid
 obtain ⟨m1, hm1⟩ : ∃ m, Hid (s.m a = m) := ⟨_, rfl⟩
 obtain ⟨m2, hm2⟩ : ∃ m, Hid (s.m (up1 a) = m) := ⟨_, rfl⟩
 have hm3 : Hid ((s.rd a).m (up1 a) = m2) := Lib.hid hm2.out
 have h1 : m1 < 256 := by rw [← hm1.out]; exact h.out.fx.good.1 a
 have h2 : m2 < 256 := by rw [← hm2.out]; exact h.out.fx.good.1 _
 have a1 : up1 a < 65536 := Nat.mod_lt _ (by decide)
 have e1 : IntKind.u16.wrap ((a : Int) + 1) = ((up1 a : Nat) : Int) := by unfold up1; show ((a : Int) + 1) % 65536 = _; omega
 obtain ⟨r, hr⟩ : ∃ m, Hid (s.numV a = m) := ⟨_, rfl⟩
 have hj : Hid (m2 * 256 + m1 = r) := Lib.hid (by rw [← hm1.out, ← hm2.out]; exact hr.out)
 have hn : r < 65536 := by have := hj.out; omega
 rw [hr.out]
 clear h
 go_enter Tryz.func28, Tryz.ntmps28
 go_wp2_with (first | ((with_reducible apply own_get HM); exact rfl; exact rfl; exact xS; exact .z; exact rfl; exact rfl) | (go_at_call 36; have hco := Lib.hid (Ex.made HM.out HG.out HX.out HF.out); (with_reducible refine (eread_n a m1 ha hm1.out hco).mono ?_); clear hco; rintro e w' ⟨rfl, hc⟩; clear HM HF HG HX; obtain ⟨HF, HG, X, HX, HM⟩ := hc.out.hid; clear hc) | (go_at_call 36; have hco := Lib.hid (Ex.made HM.out HG.out HX.out HF.out); (with_reducible refine (eread_n (up1 a) m2 a1 hm3.out hco).mono ?_); clear hco; rintro e w' ⟨rfl, hc⟩; clear HM HF HG HX; obtain ⟨HF, HG, X, HX, HM⟩ := hc.out.hid; clear hc) | (go_at_call 60; (with_reducible refine (ejoin_at m2 m1 r h2 h1 hj.out _).mono ?_); rintro e w' ⟨rfl, rfl⟩))
 go_ret
 exact ⟨rfl, Lib.hid (Ex.made HM.out HG.out HX.out HF.out)⟩
theorem build_ex (r : Rg) (p b : Nat) (u : U) (w : World) : (Instr.build 58 #[(0, r.v), (1, .pointer (some ⟨b, 0, none⟩))]).run Tryz.prog w = .ok (.agg (xc ⟨r, p, u⟩ b 0 false 0).toArray) w := by
 exact k57
theorem k2 {P : Prop} (h : P := by
 have HM := Lib.hid (Own.start w)
 go_enter Tryz.func43, Tryz.ntmps43
 go_wp2_with (first | (refine a0 ?_; clear HM; intro w' g' HM) | refine a13 ?_)
 (refine own_region HM (by kernel_rfl) (by kernel_rfl) ?_; (try simp only [Act.put, List.setIfInBounds_toArray, List.set_cons_zero, List.set_cons_succ]); repeat ((fail_if_success (with_reducible refine wpQuiet_nil ?_)); first | go_big_quiet_skip | (go_big_quiet_want; first | (refine a19 ?_; go_big_quiet_op; go_big_quiet_on) | (refine a20 ?_; go_big_quiet_op; go_big_quiet_on) | (refine a21 ?_; go_big_quiet_op; go_big_quiet_on) | ((with_reducible apply quiet_call); exact fun w => rfl; (focus (go_simp; all_goals with_reducible rfl)); (intro wq HQ; first | (with_reducible exact HH1.out _) | (with_reducible exact HH2.out _)); go_big_quiet_op; go_big_quiet_on) | (go_big_quiet_op; go_big_quiet_on) | (go_big_quiet_op; refine ⟨_, fun _ _ => rfl, ?_⟩; go_big_quiet_on))))
 refine wpQuiet_nil ?_
 intro w' HM'
 clear HM; have HM := HM'; clear HM'
 go_wp2_with fail
 go_ret
 exact ⟨rfl, Own.fin HM⟩) : P := h
theorem rget_BC (r : Rg) (h1 : r.b < 256) (h2 : r.c < 256) (w : World) : CB 43 #[r.v, .string ⟨#[66, 67]⟩] w (.int .i64 ((r.b * 256 + r.c : Nat) : Int)) := by
 obtain ⟨x, hx⟩ : ∃ x, x = r.b := ⟨_, rfl⟩
 obtain ⟨y, hy⟩ : ∃ y, y = r.c := ⟨_, rfl⟩
 have H1 := rget_B r h1
 have H2 := rget_C r h2
 rw [← hx] at H1 h1 ⊢
 rw [← hy] at H2 h2 ⊢
 obtain ⟨p, hp⟩ : ∃ p, p = 256 * (x : Int) := ⟨_, rfl⟩
 obtain ⟨q, hq⟩ : ∃ q, Hid (q = p + (y : Int)) := ⟨_, rfl⟩
 have e1 : IntKind.i64.wrap (256 * (x : Int)) = p := by rw [hp, IntKind.wrap_i64]; omega
 have e2 : IntKind.i64.wrap (p + (y : Int)) = q := by rw [hq.out, hp, IntKind.wrap_i64]; omega
 have e3 : ((x * 256 + y : Nat) : Int) = q := by rw [hq.out, hp]; omega
 rw [e3]
 have HH1 := Lib.hid H1
 have HH2 := Lib.hid H2
 clear H1 H2 hx hy e3 hp
 have c1 : (ByteArray.mk #[66, 67]).extract 0 1 = ⟨#[66]⟩ := by decide +kernel
 have c2 : (ByteArray.mk #[66, 67]).extract 1 2 = ⟨#[67]⟩ := by decide +kernel
 exact k2
theorem rget_DE (r : Rg) (h1 : r.d < 256) (h2 : r.e < 256) (w : World) : CB 43 #[r.v, .string ⟨#[68, 69]⟩] w (.int .i64 ((r.d * 256 + r.e : Nat) : Int)) := by
 obtain ⟨x, hx⟩ : ∃ x, x = r.d := ⟨_, rfl⟩
 obtain ⟨y, hy⟩ : ∃ y, y = r.e := ⟨_, rfl⟩
 have H1 := rget_D r h1
 have H2 := rget_E r h2
 rw [← hx] at H1 h1 ⊢
 rw [← hy] at H2 h2 ⊢
 obtain ⟨p, hp⟩ : ∃ p, p = 256 * (x : Int) := ⟨_, rfl⟩
 obtain ⟨q, hq⟩ : ∃ q, Hid (q = p + (y : Int)) := ⟨_, rfl⟩
 have e1 : IntKind.i64.wrap (256 * (x : Int)) = p := by rw [hp, IntKind.wrap_i64]; omega
 have e2 : IntKind.i64.wrap (p + (y : Int)) = q := by rw [hq.out, hp, IntKind.wrap_i64]; omega
 have e3 : ((x * 256 + y : Nat) : Int) = q := by rw [hq.out, hp]; omega
 rw [e3]
 have HH1 := Lib.hid H1
 have HH2 := Lib.hid H2
 clear H1 H2 hx hy e3 hp
 have c1 : (ByteArray.mk #[68, 69]).extract 0 1 = ⟨#[68]⟩ := by decide +kernel
 have c2 : (ByteArray.mk #[68, 69]).extract 1 2 = ⟨#[69]⟩ := by decide +kernel
 exact k2
theorem rget_HL (r : Rg) (h1 : r.h < 256) (h2 : r.l < 256) (w : World) : CB 43 #[r.v, .string ⟨#[72, 76]⟩] w (.int .i64 ((r.h * 256 + r.l : Nat) : Int)) := by
 obtain ⟨x, hx⟩ : ∃ x, x = r.h := ⟨_, rfl⟩
 obtain ⟨y, hy⟩ : ∃ y, y = r.l := ⟨_, rfl⟩
 have H1 := rget_H r h1
 have H2 := rget_L r h2
 rw [← hx] at H1 h1 ⊢
 rw [← hy] at H2 h2 ⊢
 obtain ⟨p, hp⟩ : ∃ p, p = 256 * (x : Int) := ⟨_, rfl⟩
 obtain ⟨q, hq⟩ : ∃ q, Hid (q = p + (y : Int)) := ⟨_, rfl⟩
 have e1 : IntKind.i64.wrap (256 * (x : Int)) = p := by rw [hp, IntKind.wrap_i64]; omega
 have e2 : IntKind.i64.wrap (p + (y : Int)) = q := by rw [hq.out, hp, IntKind.wrap_i64]; omega
 have e3 : ((x * 256 + y : Nat) : Int) = q := by rw [hq.out, hp]; omega
 rw [e3]
 have HH1 := Lib.hid H1
 have HH2 := Lib.hid H2
 clear H1 H2 hx hy e3 hp
 have c1 : (ByteArray.mk #[72, 76]).extract 0 1 = ⟨#[72]⟩ := by decide +kernel
 have c2 : (ByteArray.mk #[72, 76]).extract 1 2 = ⟨#[76]⟩ := by decide +kernel
 exact k2
theorem rget_AF (r : Rg) (h1 : r.a < 256) (h2 : r.f < 256) (w : World) : CB 43 #[r.v, .string ⟨#[65, 70]⟩] w (.int .i64 ((r.a * 256 + r.f : Nat) : Int)) := by
 obtain ⟨x, hx⟩ : ∃ x, x = r.a := ⟨_, rfl⟩
 obtain ⟨y, hy⟩ : ∃ y, y = r.f := ⟨_, rfl⟩
 have H1 := rget_A r h1
 have H2 := rget_F r h2
 rw [← hx] at H1 h1 ⊢
 rw [← hy] at H2 h2 ⊢
 obtain ⟨p, hp⟩ : ∃ p, p = 256 * (x : Int) := ⟨_, rfl⟩
 obtain ⟨q, hq⟩ : ∃ q, Hid (q = p + (y : Int)) := ⟨_, rfl⟩
 have e1 : IntKind.i64.wrap (256 * (x : Int)) = p := by rw [hp, IntKind.wrap_i64]; omega
 have e2 : IntKind.i64.wrap (p + (y : Int)) = q := by rw [hq.out, hp, IntKind.wrap_i64]; omega
 have e3 : ((x * 256 + y : Nat) : Int) = q := by rw [hq.out, hp]; omega
 rw [e3]
 have HH1 := Lib.hid H1
 have HH2 := Lib.hid H2
 clear H1 H2 hx hy e3 hp
 have c1 : (ByteArray.mk #[65, 70]).extract 0 1 = ⟨#[65]⟩ := by decide +kernel
 have c2 : (ByteArray.mk #[65, 70]).extract 1 2 = ⟨#[70]⟩ := by decide +kernel
 exact k2
theorem rset_BC (r : Rg) (v : Nat) (hv : v < 65536) (w : World) : CB 99 #[r.v, .string ⟨#[66, 67]⟩, .int .i64 (v : Int)] w (({ r with b := v / 256, c := v % 256 } : Rg).v) := by
 obtain ⟨x, hx⟩ : ∃ x, Hid (v / 256 = x) := ⟨_, rfl⟩
 obtain ⟨y, hy⟩ : ∃ y, Hid (v % 256 = y) := ⟨_, rfl⟩
 have x1 : x < 256 := by have := hx.out; omega
 have y1 : y < 256 := by have := hy.out; omega
 rw [hx.out, hy.out]
 have HH1 := Lib.hid (rset_B r x x1)
 have HH2 := Lib.hid (rset_C { r with b := x } y y1)
 have e1 : IntKind.i64.wrap ((v : Int).tdiv 256) = (x : Int) := by rw [Int.tdiv_eq_ediv_of_nonneg (by omega), IntKind.wrap_i64]; have := hx.out; omega
 have e2 : (x : Int).tmod 256 = (x : Int) := by rw [Int.tmod_eq_emod_of_nonneg (by omega)]; omega
 have e3 : (v : Int).tmod 256 = (y : Int) := by rw [Int.tmod_eq_emod_of_nonneg (by omega)]; have := hy.out; omega
 have e4 : (v : Int) / 256 = (x : Int) := by have := hx.out; omega
 have hv2 : (v : Int) < 65536 := by omega
 have c1 : (ByteArray.mk #[66, 67]).extract 0 1 = ⟨#[66]⟩ := by decide +kernel
 have c2 : (ByteArray.mk #[66, 67]).extract 1 2 = ⟨#[67]⟩ := by decide +kernel
 clear hv x1 y1 hx hy
 have HM := Lib.hid (Own.start w)
 go_enter Tryz.func99, Tryz.ntmps99
 go_wp2_with (first | (refine b0 ?_; clear HM; intro w' g' HM) | refine a6 ?_ | (refine b1 ?_; clear HM; intro w' HM))
 (refine own_tail 12 HM (by kernel_rfl) (by kernel_rfl) (by kernel_rfl) ?_; simp only [List.take_succ_cons, List.take_zero, List.drop_succ_cons, List.drop_zero]; (try simp only [Act.put, List.setIfInBounds_toArray, List.set_cons_zero, List.set_cons_succ]); repeat ((fail_if_success (with_reducible refine wpQuiet_nil ?_)); first | go_big_quiet_skip | (go_big_quiet_want; first | (refine a19 ?_; go_big_quiet_op; go_big_quiet_on) | (refine a20 ?_; go_big_quiet_op; go_big_quiet_on) | (refine a21 ?_; go_big_quiet_op; go_big_quiet_on) | ((with_reducible apply quiet_call); exact fun w => rfl; (focus (go_simp; all_goals with_reducible rfl)); (intro wq HQ; first | (with_reducible exact HH1.out _) | (with_reducible exact HH2.out _)); go_big_quiet_op; go_big_quiet_on) | (go_big_quiet_op; go_big_quiet_on) | (go_big_quiet_op; refine ⟨_, fun _ _ => rfl, ?_⟩; go_big_quiet_on))))
 refine wpQuiet_nil ?_
 intro w' HM'
 clear HM; have HM := HM'; clear HM'
 go_wp2_with (first | (refine a7 ?_; clear HM; intro w' HM))
 refine bodyPost_ret (v := .agg ({ r with b := x, c := y } : Rg).cells.toArray) (own_results HM Tryz.results99 _ rfl (by first | exact .z | exact .s .z) aggR) rfl ⟨rfl, Own.fin HM⟩
theorem rset_DE (r : Rg) (v : Nat) (hv : v < 65536) (w : World) : CB 99 #[r.v, .string ⟨#[68, 69]⟩, .int .i64 (v : Int)] w (({ r with d := v / 256, e := v % 256 } : Rg).v) := by
 obtain ⟨x, hx⟩ : ∃ x, Hid (v / 256 = x) := ⟨_, rfl⟩
 obtain ⟨y, hy⟩ : ∃ y, Hid (v % 256 = y) := ⟨_, rfl⟩
 have x1 : x < 256 := by have := hx.out; omega
 have y1 : y < 256 := by have := hy.out; omega
 rw [hx.out, hy.out]
 have HH1 := Lib.hid (rset_D r x x1)
 have HH2 := Lib.hid (rset_E { r with d := x } y y1)
 have e1 : IntKind.i64.wrap ((v : Int).tdiv 256) = (x : Int) := by rw [Int.tdiv_eq_ediv_of_nonneg (by omega), IntKind.wrap_i64]; have := hx.out; omega
 have e2 : (x : Int).tmod 256 = (x : Int) := by rw [Int.tmod_eq_emod_of_nonneg (by omega)]; omega
 have e3 : (v : Int).tmod 256 = (y : Int) := by rw [Int.tmod_eq_emod_of_nonneg (by omega)]; have := hy.out; omega
 have e4 : (v : Int) / 256 = (x : Int) := by have := hx.out; omega
 have hv2 : (v : Int) < 65536 := by omega
 have c1 : (ByteArray.mk #[68, 69]).extract 0 1 = ⟨#[68]⟩ := by decide +kernel
 have c2 : (ByteArray.mk #[68, 69]).extract 1 2 = ⟨#[69]⟩ := by decide +kernel
 clear hv x1 y1 hx hy
 have HM := Lib.hid (Own.start w)
 go_enter Tryz.func99, Tryz.ntmps99
 go_wp2_with (first | (refine b0 ?_; clear HM; intro w' g' HM) | refine a6 ?_ | (refine b1 ?_; clear HM; intro w' HM))
 (refine own_tail 12 HM (by kernel_rfl) (by kernel_rfl) (by kernel_rfl) ?_; simp only [List.take_succ_cons, List.take_zero, List.drop_succ_cons, List.drop_zero]; (try simp only [Act.put, List.setIfInBounds_toArray, List.set_cons_zero, List.set_cons_succ]); repeat ((fail_if_success (with_reducible refine wpQuiet_nil ?_)); first | go_big_quiet_skip | (go_big_quiet_want; first | (refine a19 ?_; go_big_quiet_op; go_big_quiet_on) | (refine a20 ?_; go_big_quiet_op; go_big_quiet_on) | (refine a21 ?_; go_big_quiet_op; go_big_quiet_on) | ((with_reducible apply quiet_call); exact fun w => rfl; (focus (go_simp; all_goals with_reducible rfl)); (intro wq HQ; first | (with_reducible exact HH1.out _) | (with_reducible exact HH2.out _)); go_big_quiet_op; go_big_quiet_on) | (go_big_quiet_op; go_big_quiet_on) | (go_big_quiet_op; refine ⟨_, fun _ _ => rfl, ?_⟩; go_big_quiet_on))))
 refine wpQuiet_nil ?_
 intro w' HM'
 clear HM; have HM := HM'; clear HM'
 go_wp2_with (first | (refine a7 ?_; clear HM; intro w' HM))
 refine bodyPost_ret (v := .agg ({ r with d := x, e := y } : Rg).cells.toArray) (own_results HM Tryz.results99 _ rfl (by first | exact .z | exact .s .z) aggR) rfl ⟨rfl, Own.fin HM⟩
theorem rset_HL (r : Rg) (v : Nat) (hv : v < 65536) (w : World) : CB 99 #[r.v, .string ⟨#[72, 76]⟩, .int .i64 (v : Int)] w (({ r with h := v / 256, l := v % 256 } : Rg).v) := by
 obtain ⟨x, hx⟩ : ∃ x, Hid (v / 256 = x) := ⟨_, rfl⟩
 obtain ⟨y, hy⟩ : ∃ y, Hid (v % 256 = y) := ⟨_, rfl⟩
 have x1 : x < 256 := by have := hx.out; omega
 have y1 : y < 256 := by have := hy.out; omega
 rw [hx.out, hy.out]
 have HH1 := Lib.hid (rset_H r x x1)
 have HH2 := Lib.hid (rset_L { r with h := x } y y1)
 have e1 : IntKind.i64.wrap ((v : Int).tdiv 256) = (x : Int) := by rw [Int.tdiv_eq_ediv_of_nonneg (by omega), IntKind.wrap_i64]; have := hx.out; omega
 have e2 : (x : Int).tmod 256 = (x : Int) := by rw [Int.tmod_eq_emod_of_nonneg (by omega)]; omega
 have e3 : (v : Int).tmod 256 = (y : Int) := by rw [Int.tmod_eq_emod_of_nonneg (by omega)]; have := hy.out; omega
 have e4 : (v : Int) / 256 = (x : Int) := by have := hx.out; omega
 have hv2 : (v : Int) < 65536 := by omega
 have c1 : (ByteArray.mk #[72, 76]).extract 0 1 = ⟨#[72]⟩ := by decide +kernel
 have c2 : (ByteArray.mk #[72, 76]).extract 1 2 = ⟨#[76]⟩ := by decide +kernel
 clear hv x1 y1 hx hy
 have HM := Lib.hid (Own.start w)
 go_enter Tryz.func99, Tryz.ntmps99
 go_wp2_with (first | (refine b0 ?_; clear HM; intro w' g' HM) | refine a6 ?_ | (refine b1 ?_; clear HM; intro w' HM))
 (refine own_tail 12 HM (by kernel_rfl) (by kernel_rfl) (by kernel_rfl) ?_; simp only [List.take_succ_cons, List.take_zero, List.drop_succ_cons, List.drop_zero]; (try simp only [Act.put, List.setIfInBounds_toArray, List.set_cons_zero, List.set_cons_succ]); repeat ((fail_if_success (with_reducible refine wpQuiet_nil ?_)); first | go_big_quiet_skip | (go_big_quiet_want; first | (refine a19 ?_; go_big_quiet_op; go_big_quiet_on) | (refine a20 ?_; go_big_quiet_op; go_big_quiet_on) | (refine a21 ?_; go_big_quiet_op; go_big_quiet_on) | ((with_reducible apply quiet_call); exact fun w => rfl; (focus (go_simp; all_goals with_reducible rfl)); (intro wq HQ; first | (with_reducible exact HH1.out _) | (with_reducible exact HH2.out _)); go_big_quiet_op; go_big_quiet_on) | (go_big_quiet_op; go_big_quiet_on) | (go_big_quiet_op; refine ⟨_, fun _ _ => rfl, ?_⟩; go_big_quiet_on))))
 refine wpQuiet_nil ?_
 intro w' HM'
 clear HM; have HM := HM'; clear HM'
 go_wp2_with (first | (refine a7 ?_; clear HM; intro w' HM))
 refine bodyPost_ret (v := .agg ({ r with h := x, l := y } : Rg).cells.toArray) (own_results HM Tryz.results99 _ rfl (by first | exact .z | exact .s .z) aggR) rfl ⟨rfl, Own.fin HM⟩
theorem rset_AF (r : Rg) (v : Nat) (hv : v < 65536) (w : World) : CB 99 #[r.v, .string ⟨#[65, 70]⟩, .int .i64 (v : Int)] w (({ r with a := v / 256, f := v % 256 } : Rg).v) := by
 obtain ⟨x, hx⟩ : ∃ x, Hid (v / 256 = x) := ⟨_, rfl⟩
 obtain ⟨y, hy⟩ : ∃ y, Hid (v % 256 = y) := ⟨_, rfl⟩
 have x1 : x < 256 := by have := hx.out; omega
 have y1 : y < 256 := by have := hy.out; omega
 rw [hx.out, hy.out]
 have HH1 := Lib.hid (rset_A r x x1)
 have HH2 := Lib.hid (rset_F { r with a := x } y y1)
 have e1 : IntKind.i64.wrap ((v : Int).tdiv 256) = (x : Int) := by rw [Int.tdiv_eq_ediv_of_nonneg (by omega), IntKind.wrap_i64]; have := hx.out; omega
 have e2 : (x : Int).tmod 256 = (x : Int) := by rw [Int.tmod_eq_emod_of_nonneg (by omega)]; omega
 have e3 : (v : Int).tmod 256 = (y : Int) := by rw [Int.tmod_eq_emod_of_nonneg (by omega)]; have := hy.out; omega
 have e4 : (v : Int) / 256 = (x : Int) := by have := hx.out; omega
 have hv2 : (v : Int) < 65536 := by omega
 have c1 : (ByteArray.mk #[65, 70]).extract 0 1 = ⟨#[65]⟩ := by decide +kernel
 have c2 : (ByteArray.mk #[65, 70]).extract 1 2 = ⟨#[70]⟩ := by decide +kernel
 clear hv x1 y1 hx hy
 have HM := Lib.hid (Own.start w)
 go_enter Tryz.func99, Tryz.ntmps99
 go_wp2_with (first | (refine b0 ?_; clear HM; intro w' g' HM) | refine a6 ?_ | (refine b1 ?_; clear HM; intro w' HM))
 (refine own_tail 12 HM (by kernel_rfl) (by kernel_rfl) (by kernel_rfl) ?_; simp only [List.take_succ_cons, List.take_zero, List.drop_succ_cons, List.drop_zero]; (try simp only [Act.put, List.setIfInBounds_toArray, List.set_cons_zero, List.set_cons_succ]); repeat ((fail_if_success (with_reducible refine wpQuiet_nil ?_)); first | go_big_quiet_skip | (go_big_quiet_want; first | (refine a19 ?_; go_big_quiet_op; go_big_quiet_on) | (refine a20 ?_; go_big_quiet_op; go_big_quiet_on) | (refine a21 ?_; go_big_quiet_op; go_big_quiet_on) | ((with_reducible apply quiet_call); exact fun w => rfl; (focus (go_simp; all_goals with_reducible rfl)); (intro wq HQ; first | (with_reducible exact HH1.out _) | (with_reducible exact HH2.out _)); go_big_quiet_op; go_big_quiet_on) | (go_big_quiet_op; go_big_quiet_on) | (go_big_quiet_op; refine ⟨_, fun _ _ => rfl, ?_⟩; go_big_quiet_on))))
 refine wpQuiet_nil ?_
 intro w' HM'
 clear HM; have HM := HM'; clear HM'
 go_wp2_with (first | (refine a7 ?_; clear HM; intro w' HM))
 refine bodyPost_ret (v := .agg ({ r with a := x, f := y } : Rg).cells.toArray) (own_results HM Tryz.results99 _ rfl (by first | exact .z | exact .s .z) aggR) rfl ⟨rfl, Own.fin HM⟩
end
end Go.Proofs.YtgdeeiimkhjfiaaGreatDoor
