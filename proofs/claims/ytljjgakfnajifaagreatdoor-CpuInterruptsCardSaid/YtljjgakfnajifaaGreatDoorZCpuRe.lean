import Derived.Test.YtljjgakfnajifaaGreatDoorZCpuRw
import Derived.Test.YtljjgakfnajifaaGreatDoorZRegRef
import Derived.Deep.Cut
import Derived.Deep.CutRange
namespace Go.Proofs.YtljjgakfnajifaaGreatDoor
open Go.RowKit
theorem oneWp : One Tryz.prog 34 := ⟨⟨_, Tryz.underlying34, rfl⟩, by kernel_rfl⟩
def xc (s : Cs) (b tq : Nat) (ix : Bool) (pg : Int) : List Value := s.r.cells ++ [.pointer (some ⟨b, 0, none⟩), .int .u16 (tq : Int), .bool ix, .int .i64 pg]
theorem Xs.drop0 (s : Cs) (x : Nat × Nat × Bool × Int) : Drop (xc s x.1 x.2.1 x.2.2.1 x.2.2.2) 0 (xc s x.1 x.2.1 x.2.2.1 x.2.2.2) := .z
section
variable {s : Cs} {b tq : Nat} {ix : Bool} {pg : Int}
theorem xc_take29 : Take (xc s b tq ix pg) 29 s.r.cells := by unfold xc Rg.cells; repeat' first | exact .z | apply Take.s
theorem xc_over29 (r : Rg) : Over (xc s b tq ix pg) 0 r.cells (xc (s.setR r) b tq ix pg) := by unfold xc Rg.cells Cs.setR; repeat' first | exact .z | apply Over.p
theorem xc_pc {v : Nat} : (xc s b tq ix pg).set 19 (.int .u16 (v : Int)) = xc (s.setPC v) b tq ix pg := rfl
theorem xc_wz {v : Nat} : (xc s b tq ix pg).set 20 (.int .u16 (v : Int)) = xc (s.setWZ v) b tq ix pg := rfl
theorem xc_ht {v : Bool} : (xc s b tq ix pg).set 27 (.bool v) = xc (s.setHT v) b tq ix pg := rfl
theorem xc_q1 {v : Bool} : (xc s b tq ix pg).set 25 (.bool v) = xc (s.setQ1 v) b tq ix pg := rfl
theorem xc_q2 {v : Bool} : (xc s b tq ix pg).set 26 (.bool v) = xc (s.setQ2 v) b tq ix pg := rfl
theorem xc_length : (xc s b tq ix pg).length = 33 := rfl
end
structure Ex (W0 w : World) (x b : Nat) (s : Cs) (tq : Nat) (ix : Bool) (pg : Int) (l : Blocks) (n : Nat) : Prop where
  fits : s.r.Fits
  fx : Fx W0 w b s.u ((x, 72, xc s b tq ix pg) :: l) n
section
variable {W0 w : World} {x b tq n : Nat} {s : Cs} {ix : Bool} {pg : Int} {l X : Blocks}
theorem Ex.hid (h : Ex W0 w x b s tq ix pg l n) : ∃ _ : Hid s.r.Fits, ∃ _ : Hid (s.u.Good n), ∃ X, ∃ _ : Hid (IsFlat X b s.u), Hid (Own W0 w ((x, 72, xc s b tq ix pg) :: (l ++ X))) := by
  obtain ⟨hf, hg, X, hX, hO⟩ := h
  exact ⟨hf, hg, X, hX, hO⟩
theorem Ex.made (h : Own W0 w ((x, 72, xc s b tq ix pg) :: (l ++ X))) (hg : s.u.Good n) (hX : IsFlat X b s.u) (hf : s.r.Fits) : Ex W0 w x b s tq ix pg l n := ⟨hf, hg, X, hX, h⟩
end
set_option maxRecDepth 100000 in
set_option maxHeartbeats 400000 in
theorem eget_SP {W0 w : World} {x b tq n : Nat} {s : Cs} {ix : Bool} {pg : Int} {l : Blocks} (h : Hid (Ex W0 w x b (s) tq ix pg l n)) :
    Calls Tryz.prog 32 #[.pointer (some ⟨x, 0, none⟩), .string ⟨#[83, 80]⟩] w fun e w' => e = .returned (.int .i64 (s.r.sp : Int)) ∧ Hid (Ex W0 w' x b (s) tq ix pg l n) := by
  obtain ⟨HF, HG, X, HX, HM⟩ := h.out.hid
  clear h
  have hsp := HF.out.sp
  go_enter Tryz.func32, Tryz.ntmps32
  go_wp2_with (first
    | ((with_reducible apply own_load HM); exact rfl; exact rfl; (with_reducible exact aggR); exact .z; exact .z; exact xc_take29; exact rfl; all_goals skip)
    | (go_at_call 58; (with_reducible refine (rget_SP s.r hsp _).mono ?_); rintro e w' ⟨rfl, hb⟩; replace HM := Lib.hid (HM.out.call hb); clear hb))
  go_ret
  exact ⟨rfl, Lib.hid (Ex.made HM.out HG.out HX.out HF.out)⟩
theorem eget_SPn {W0 w : World} {x b tq n : Nat} {s : Cs} {ix : Bool} {pg : Int} {l : Blocks} (z : Nat) (hz : Hid (s.r.sp = z)) (h : Hid (Ex W0 w x b (s) tq ix pg l n)) :
    Calls Tryz.prog 32 #[.pointer (some ⟨x, 0, none⟩), .string ⟨#[83, 80]⟩] w fun e w' => e = .returned (.int .i64 (z : Int)) ∧ Hid (Ex W0 w' x b (s) tq ix pg l n) := by
  rw [← hz.out]; exact eget_SP h
set_option maxRecDepth 100000 in
set_option maxHeartbeats 400000 in
theorem eset_SP {W0 w : World} {x b tq n : Nat} {s : Cs} {ix : Bool} {pg : Int} {l : Blocks} (z t : Int) (v : Nat) (hv : v < 65536) (h1 : z.tmod 65536 = t) (h2 : (t + 65536).tmod 65536 = (v : Int)) (ht : -65536 < t ∧ t < 65536) (h : Hid (Ex W0 w x b (s) tq ix pg l n)) :
    Calls Tryz.prog 64 #[.pointer (some ⟨x, 0, none⟩), .string ⟨#[83, 80]⟩, .int .i64 z] w fun e w' => e = .returned (.tuple #[]) ∧ Hid (Ex W0 w' x b (s.setSP v) tq ix pg l n) := by
  obtain ⟨HF, HG, X, HX, HM⟩ := h.out.hid
  clear h
  have t1 := ht.1
  have t2 := ht.2
  clear ht
  go_enter Tryz.func64, Tryz.ntmps64
  go_wp2_with (first
    | ((with_reducible apply own_load HM); exact rfl; exact rfl; (with_reducible exact aggR); exact .z; exact .z; exact xc_take29; exact rfl; all_goals skip)
    | (go_at_call 116; (with_reducible refine (rset_SP s.r v hv _).mono ?_); rintro e w' ⟨rfl, hb⟩; replace HM := Lib.hid (HM.out.call hb); clear hb)
    | ((with_reducible apply own_store HM); exact rfl; exact rfl; (conv => lhs; whnf); exact rfl; exact .z; exact xc_over29 _; exact .z; exact aggR.size; exact Rg.cells_length _; exact Rg.one1 _; exact rfl; exact rfl; clear HM; intro w' HM))
  (first
    | go_end0
    | ((try simp only [Exit.inBlock, Exit.then]); refine bodyPost_ret (results_none rfl _ _ _) rfl ?_))
  have hf : (s.setSP v).r.Fits := { HF.out with sp := hv }
  exact ⟨rfl, Lib.hid (Ex.made HM.out HG.out HX.out hf)⟩
set_option maxRecDepth 100000 in
set_option maxHeartbeats 400000 in
theorem eget16_at {W0 w : World} {x b tq n : Nat} {s : Cs} {ix : Bool} {pg : Int} {l : Blocks} (h : Hid (Ex W0 w x b (s) tq ix pg l n)) :
    Calls Tryz.prog 35 #[.pointer (some ⟨x, 0, none⟩)] w fun e w' => e = .returned (.int .i64 (s.r.pc : Int)) ∧ Hid (Ex W0 w' x b (s) tq ix pg l n) := by
  obtain ⟨HF, HG, X, HX, HM⟩ := h.out.hid
  clear h
  have hpc := HF.out.pc
  go_enter Tryz.func35, Tryz.ntmps35
  go_wp2_with (first
    | ((with_reducible apply own_get HM); exact rfl; exact rfl; (first | (with_reducible exact oneU8) | (with_reducible exact oneU16) | (with_reducible exact oneBool) | (with_reducible exact oneWp)); exact .z; exact rfl; exact rfl; all_goals skip))
  go_ret
  exact ⟨rfl, Lib.hid (Ex.made HM.out HG.out HX.out HF.out)⟩
set_option maxRecDepth 100000 in
set_option maxHeartbeats 400000 in
theorem eto_at {W0 w : World} {x b tq n : Nat} {s : Cs} {ix : Bool} {pg : Int} {l : Blocks} (a : Nat) (ha : a < 65536) (h : Hid (Ex W0 w x b (s) tq ix pg l n)) :
    Calls Tryz.prog 36 #[.pointer (some ⟨x, 0, none⟩), .int .i64 (a : Int)] w fun e w' => e = .returned (.tuple #[]) ∧ Hid (Ex W0 w' x b (s.goTo a) tq ix pg l n) := by
  obtain ⟨HF, HG, X, HX, HM⟩ := h.out.hid
  clear h
  go_enter Tryz.func36, Tryz.ntmps36
  go_wp2_with (first
    | ((with_reducible apply own_setc HM); exact rfl; exact rfl; exact rfl; exact .z; (first | exact xc_pc | exact xc_wz | exact xc_ht | exact xc_q1 | exact xc_q2); exact .z; (first | (with_reducible exact oneU16.size) | (with_reducible exact oneBool.size)); exact rfl; exact rfl; (rw [xc_length]; decide); exact rfl; clear HM; intro w' HM; all_goals skip))
  (first
    | go_end0
    | ((try simp only [Exit.inBlock, Exit.then]); refine bodyPost_ret (results_none rfl _ _ _) rfl ?_))
  have hf : (s.goTo a).r.Fits := { HF.out with pc := ha, wz := ha }
  exact ⟨rfl, Lib.hid (Ex.made HM.out HG.out HX.out hf)⟩
theorem ewrite_at {W0 w : World} {x b tq n : Nat} {s : Cs} {ix : Bool} {pg : Int} {l : Blocks} (a v : Nat) (ha : a < 65536) (hv : v < 256) (h : Hid (Ex W0 w x b (s) tq ix pg l (n + 1))) :
    Calls Tryz.prog 71 #[.pointer (some ⟨b, 0, none⟩), .int .u16 (a : Int), .int .u8 (v : Int)] w fun e w' => e = .returned (.tuple #[]) ∧ Hid (Ex W0 w' x b (s.wr a v) tq ix pg l n) :=
  (flat_write a v ha hv (Lib.hid h.out.fx)).mono fun _ _ ⟨he, hf⟩ => ⟨he, Lib.hid ⟨h.out.fits, hf.out⟩⟩
theorem eread_at {W0 w : World} {x b tq n : Nat} {s : Cs} {ix : Bool} {pg : Int} {l : Blocks} (a : Nat) (ha : a < 65536) (h : Hid (Ex W0 w x b (s) tq ix pg l (n + 1))) :
    Calls Tryz.prog 53 #[.pointer (some ⟨b, 0, none⟩), .int .u16 (a : Int)] w fun e w' => e = .returned (.int .u8 (s.m a : Int)) ∧ Hid (Ex W0 w' x b (s.rd a) tq ix pg l n) :=
  (flat_read a ha (Lib.hid h.out.fx)).mono fun _ _ ⟨he, hf⟩ => ⟨he, Lib.hid ⟨h.out.fits, hf.out⟩⟩
theorem eread_n {W0 w : World} {x b tq n : Nat} {s : Cs} {ix : Bool} {pg : Int} {l : Blocks} (a v : Nat) (ha : a < 65536) (hv : s.m a = v) (h : Hid (Ex W0 w x b (s) tq ix pg l (n + 1))) :
    Calls Tryz.prog 53 #[.pointer (some ⟨b, 0, none⟩), .int .u16 (a : Int)] w fun e w' => e = .returned (.int .u8 (v : Int)) ∧ Hid (Ex W0 w' x b (s.rd a) tq ix pg l n) := by
  subst hv; exact eread_at a ha h
theorem tm_dn (p q : Nat) (hp : p < 65536) (hq : Hid (dn1 p = q)) : ∃ t : Int, ((p : Int) - 1).tmod 65536 = t ∧ (t + 65536).tmod 65536 = (q : Int) ∧ -65536 < t ∧ t < 65536 := by
  have e := hq.out
  unfold dn1 at e
  by_cases h0 : p = 0
  · subst h0
    refine ⟨-1, rfl, ?_, by decide, by decide⟩
    rw [← e]; rfl
  · refine ⟨(p : Int) - 1, ?_, ?_, by omega, by omega⟩
    · rw [Int.tmod_eq_emod_of_nonneg (by omega)]; omega
    · rw [Int.tmod_eq_emod_of_nonneg (by omega)]; omega
theorem ejoin_at (h l v : Nat) (hh : h < 256) (hl : l < 256) (hv : h * 256 + l = v) (w : World) :
    Calls Tryz.prog 72 #[.int .u8 (h : Int), .int .u8 (l : Int)] w fun e w' => e = .returned (.int .u16 (v : Int)) ∧ w = w' := by
  subst hv
  go_enter Tryz.func72, Tryz.ntmps72
  go_wp2
  go_ret
  refine ⟨?_, rfl⟩
  simp only [Int.natCast_add, Int.natCast_mul, Int.cast_ofNat_Int]
  rfl
set_option maxRecDepth 100000 in
set_option maxHeartbeats 400000 in
theorem epush_at {W0 w : World} {x b tq n : Nat} {s : Cs} {ix : Bool} {pg : Int} {l : Blocks} (v : Nat) (hv : v < 65536) (h : Hid (Ex W0 w x b (s) tq ix pg l (n + 2))) :
    Calls Tryz.prog 34 #[.pointer (some ⟨x, 0, none⟩), .int .i64 (v : Int)] w fun e w' => e = .returned (.tuple #[]) ∧ Hid (Ex W0 w' x b (s.push v) tq ix pg l n) := by
  obtain ⟨HF, HG, X, HX, HM⟩ := h.out.hid
  obtain ⟨lo, hlo⟩ : ∃ x, Hid (v % 256 = x) := ⟨_, rfl⟩
  obtain ⟨hi, hhi⟩ : ∃ x, Hid (wHigh v = x) := ⟨_, rfl⟩
  have h1 : lo < 256 := by rw [← hlo.out]; exact Nat.mod_lt _ (by decide)
  have h2 : hi < 256 := by rw [← hhi.out]; exact wHigh_lt v hv
  obtain ⟨z, hz⟩ : ∃ x, Hid (s.r.sp = x) := ⟨_, rfl⟩
  obtain ⟨p, hp⟩ : ∃ x, Hid (dn1 z = x) := ⟨_, rfl⟩
  obtain ⟨q, hq⟩ : ∃ x, Hid (dn1 p = x) := ⟨_, rfl⟩
  have z1 : z < 65536 := by rw [← hz.out]; exact HF.out.sp
  have p1 : p < 65536 := by rw [← hp.out]; exact dn1_lt _
  have q1 : q < 65536 := by rw [← hq.out]; exact dn1_lt _
  have E : s.push v = (((s.setSP p).wr p hi).setSP q).wr q lo := by unfold Cs.push; rw [hlo.out, hhi.out, hz.out, hp.out, hq.out]
  rw [E]
  obtain ⟨t, ht1, ht2, ht3⟩ := tm_dn z p z1 hp
  obtain ⟨y, hy1, hy2, hy3⟩ := tm_dn p q p1 hq
  have Ht1 := Lib.hid ht1
  have Ht2 := Lib.hid ht2
  have Ht3 := Lib.hid ht3
  have Hy1 := Lib.hid hy1
  have Hy2 := Lib.hid hy2
  have Hy3 := Lib.hid hy3
  clear ht1 ht2 ht3 hy1 hy2 hy3
  have w1 : wHigh v = v / 256 := rfl
  have e1 : (v : Int) / 256 = (hi : Int) := by rw [← hhi.out, w1]; omega
  have e2 : (v : Int) % 256 = (lo : Int) := by rw [← hlo.out]; omega
  have e3 : (v : Int).tdiv 256 = (hi : Int) := by rw [Int.tdiv_eq_ediv_of_nonneg (by omega)]; exact e1
  have e4 : (v : Int).tmod 256 = (lo : Int) := by rw [Int.tmod_eq_emod_of_nonneg (by omega)]; exact e2
  clear w1
  clear E h
  go_enter Tryz.func34, Tryz.ntmps34
  go_upto_region 1 with (first
    | (go_at_call 32; have hco := Lib.hid (Ex.made HM.out HG.out HX.out HF.out); (with_reducible refine (eget_SPn z hz hco).mono ?_); clear hco; rintro e w' ⟨rfl, hc⟩; clear HM HF HG HX; obtain ⟨HF, HG, X, HX, HM⟩ := hc.out.hid; clear hc)
    | (go_at_call 64; have hco := Lib.hid (Ex.made HM.out HG.out HX.out HF.out); (with_reducible refine (eset_SP _ t p p1 Ht1.out Ht2.out Ht3.out hco).mono ?_); clear hco; rintro e w' ⟨rfl, hc⟩; clear HM HF HG HX; obtain ⟨HF, HG, X, HX, HM⟩ := hc.out.hid; clear hc))
  (refine own_tail 12 HM (by kernel_rfl) (by kernel_rfl) (by kernel_rfl) ?_; simp only [List.take_succ_cons, List.take_zero, List.drop_succ_cons, List.drop_zero]; (try simp only [Act.put, List.setIfInBounds_toArray, List.set_cons_zero, List.set_cons_succ]); repeat ((fail_if_success (with_reducible refine wpQuiet_nil ?_)); first | go_big_quiet_skip | (go_big_quiet_want; first | ((with_reducible apply quiet_get); exact rfl; (first | (with_reducible exact oneU8) | (with_reducible exact oneU16) | (with_reducible exact oneBool) | (with_reducible exact oneWp)); (with_reducible first | exact .z | exact .s .z | exact .s (.s .z) | exact .s (.s (.s .z)) | exact .s (.s (.s (.s .z)))); exact rfl; go_big_quiet_op; go_big_quiet_on) | ((with_reducible apply quiet_load); exact rfl; (with_reducible exact aggR); (with_reducible first | exact .z | exact .s .z | exact .s (.s .z) | exact .s (.s (.s .z)) | exact .s (.s (.s (.s .z)))); exact Xs.drop0 _ _; exact Xs.take29 _ _; go_big_quiet_op; go_big_quiet_on) | (go_big_quiet_op; go_big_quiet_on) | (go_big_quiet_op; refine ⟨_, fun _ _ => rfl, ?_⟩; go_big_quiet_on))))
  refine wpQuiet_nil ?_
  intro w' HM'
  clear HM; have HM := HM'; clear HM'
  go_upto_region 3 with (first
    | (go_at_call 71; have hco := Lib.hid (Ex.made HM.out HG.out HX.out HF.out); (with_reducible refine (ewrite_at p hi p1 h2 hco).mono ?_); clear hco; rintro e w' ⟨rfl, hc⟩; clear HM HF HG HX; obtain ⟨HF, HG, X, HX, HM⟩ := hc.out.hid; clear hc)
    | (go_at_call 32; have hco := Lib.hid (Ex.made HM.out HG.out HX.out HF.out); (with_reducible refine (eget_SPn p (by exact Lib.hid rfl) hco).mono ?_); clear hco; rintro e w' ⟨rfl, hc⟩; clear HM HF HG HX; obtain ⟨HF, HG, X, HX, HM⟩ := hc.out.hid; clear hc)
    | (go_at_call 64; have hco := Lib.hid (Ex.made HM.out HG.out HX.out HF.out); (with_reducible refine (eset_SP _ y q q1 Hy1.out Hy2.out Hy3.out hco).mono ?_); clear hco; rintro e w' ⟨rfl, hc⟩; clear HM HF HG HX; obtain ⟨HF, HG, X, HX, HM⟩ := hc.out.hid; clear hc))
  (refine own_tail 12 HM (by kernel_rfl) (by kernel_rfl) (by kernel_rfl) ?_; simp only [List.take_succ_cons, List.take_zero, List.drop_succ_cons, List.drop_zero]; (try simp only [Act.put, List.setIfInBounds_toArray, List.set_cons_zero, List.set_cons_succ]); repeat ((fail_if_success (with_reducible refine wpQuiet_nil ?_)); first | go_big_quiet_skip | (go_big_quiet_want; first | ((with_reducible apply quiet_get); exact rfl; (first | (with_reducible exact oneU8) | (with_reducible exact oneU16) | (with_reducible exact oneBool) | (with_reducible exact oneWp)); (with_reducible first | exact .z | exact .s .z | exact .s (.s .z) | exact .s (.s (.s .z)) | exact .s (.s (.s (.s .z)))); exact rfl; go_big_quiet_op; go_big_quiet_on) | ((with_reducible apply quiet_load); exact rfl; (with_reducible exact aggR); (with_reducible first | exact .z | exact .s .z | exact .s (.s .z) | exact .s (.s (.s .z)) | exact .s (.s (.s (.s .z)))); exact Xs.drop0 _ _; exact Xs.take29 _ _; go_big_quiet_op; go_big_quiet_on) | (go_big_quiet_op; go_big_quiet_on) | (go_big_quiet_op; refine ⟨_, fun _ _ => rfl, ?_⟩; go_big_quiet_on))))
  refine wpQuiet_nil ?_
  intro w' HM'
  clear HM; have HM := HM'; clear HM'
  go_wp2_with (first
    | (go_at_call 71; have hco := Lib.hid (Ex.made HM.out HG.out HX.out HF.out); (with_reducible refine (ewrite_at q lo q1 h1 hco).mono ?_); clear hco; rintro e w' ⟨rfl, hc⟩; clear HM HF HG HX; obtain ⟨HF, HG, X, HX, HM⟩ := hc.out.hid; clear hc))
  (first
    | go_end0
    | ((try simp only [Exit.inBlock, Exit.then]); refine bodyPost_ret (results_none rfl _ _ _) rfl ?_))
  exact ⟨rfl, Lib.hid (Ex.made HM.out HG.out HX.out HF.out)⟩
set_option maxRecDepth 100000 in
set_option maxHeartbeats 400000 in
theorem eload_at {W0 w : World} {x b tq n : Nat} {s : Cs} {ix : Bool} {pg : Int} {l : Blocks} (a : Nat) (ha : a < 65536) (h : Hid (Ex W0 w x b (s) tq ix pg l (n + 2))) :
    Calls Tryz.prog 37 #[.pointer (some ⟨x, 0, none⟩), .int .i64 (a : Int)] w fun e w' => e = .returned (.int .i64 (s.numV a : Int)) ∧ Hid (Ex W0 w' x b (s.num a) tq ix pg l n) := by
  obtain ⟨HF, HG, X, HX, HM⟩ := h.out.hid
  obtain ⟨m1, hm1⟩ : ∃ m, Hid (s.m a = m) := ⟨_, rfl⟩
  obtain ⟨m2, hm2⟩ : ∃ m, Hid (s.m (up1 a) = m) := ⟨_, rfl⟩
  have hm3 : Hid ((s.rd a).m (up1 a) = m2) := Lib.hid hm2.out
  have h1 : m1 < 256 := by rw [← hm1.out]; exact h.out.fx.good.1 a
  have h2 : m2 < 256 := by rw [← hm2.out]; exact h.out.fx.good.1 _
  have a1 : up1 a < 65536 := Nat.mod_lt _ (by decide)
  have e1 : IntKind.u16.wrap ((a : Int) + 1) = ((up1 a : Nat) : Int) := by unfold up1; show ((a : Int) + 1) % 65536 = _; omega
  obtain ⟨r, hr⟩ : ∃ m, Hid (s.numV a = m) := ⟨_, rfl⟩
  have hj : Hid (m2 * 256 + m1 = r) := Lib.hid (by rw [← hm1.out, ← hm2.out]; exact hr.out)
  have hn : r < 65536 := by have := hj.out; omega
  rw [hr.out]
  clear h
  go_enter Tryz.func37, Tryz.ntmps37
  go_wp2_with (first
    | ((with_reducible apply own_get HM); exact rfl; exact rfl; (first | (with_reducible exact oneU8) | (with_reducible exact oneU16) | (with_reducible exact oneBool) | (with_reducible exact oneWp)); exact .z; exact rfl; exact rfl; all_goals skip)
    | (go_at_call 53; have hco := Lib.hid (Ex.made HM.out HG.out HX.out HF.out); (with_reducible refine (eread_n a m1 ha hm1.out hco).mono ?_); clear hco; rintro e w' ⟨rfl, hc⟩; clear HM HF HG HX; obtain ⟨HF, HG, X, HX, HM⟩ := hc.out.hid; clear hc)
    | (go_at_call 53; have hco := Lib.hid (Ex.made HM.out HG.out HX.out HF.out); (with_reducible refine (eread_n (up1 a) m2 a1 hm3.out hco).mono ?_); clear hco; rintro e w' ⟨rfl, hc⟩; clear HM HF HG HX; obtain ⟨HF, HG, X, HX, HM⟩ := hc.out.hid; clear hc)
    | (go_at_call 72; (with_reducible refine (ejoin_at m2 m1 r h2 h1 hj.out _).mono ?_); rintro e w' ⟨rfl, rfl⟩))
  go_ret
  exact ⟨rfl, Lib.hid (Ex.made HM.out HG.out HX.out HF.out)⟩
end Go.Proofs.YtljjgakfnajifaaGreatDoor
