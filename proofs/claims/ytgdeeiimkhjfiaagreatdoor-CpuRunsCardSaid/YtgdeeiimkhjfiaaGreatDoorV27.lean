import Derived.Test.YtgdeeiimkhjfiaaGreatDoorV26
set_option maxRecDepth 100000
set_option maxHeartbeats 6400000
namespace Go.Proofs.YtgdeeiimkhjfiaaGreatDoor
open Go.RowKit
section
variable {W0 w : World} {x b tq n c : Nat} {s : Cs} {ix : Bool} {pg : Int} {l : Zj}
theorem nmSP : Nm [83, 80] (fun r => r.sp) (fun r v => { r with sp := v }) 65536 := Nm.ofPair 3 (by decide)
theorem nmHL : Nm [72, 76] (fun r => r.h * 256 + r.l) (fun r v => { r with h := v / 256, l := v % 256 }) 65536 := Nm.ofPair 2 (by decide)
theorem nmDE : Nm [68, 69] (fun r => r.d * 256 + r.e) (fun r v => { r with d := v / 256, e := v % 256 }) 65536 := Nm.ofPair 1 (by decide)
theorem nmBC : Nm [66, 67] (fun r => r.b * 256 + r.c) (fun r v => { r with b := v / 256, c := v % 256 }) 65536 := Nm.ofPair 0 (by decide)
theorem nmB : Nm [66] (fun r => r.b) (fun r v => { r with b := v }) 256 := Nm.ofLet 0 0 (by decide)
theorem nmC : Nm [67] (fun r => r.c) (fun r v => { r with c := v }) 256 := Nm.ofLet 1 0 (by decide)
def lits : List Tx := [[110], [40, 72, 76, 41], [40, 73, 88, 43, 100, 41], [40, 73, 89, 43, 100, 41], [40, 66, 67, 41], [40, 68, 69, 41], [40, 110, 110, 41], [110, 110], [83, 80], [73], [82], [40, 67, 41], [40, 110, 41], [48], [], [65, 70], [68, 69]]
def Un (t : Tx) : Prop := ∀ u ∈ lits, (t == u) = false
theorem YJ (n q : Nat) (hn : n ≤ 7 ∧ n ≠ 6) (h : q = 0 ∨ q = 221 ∨ q = 253) : Un (leT n q) := by
 have k : ∀ q ∈ [0, 221, 253], ∀ n ∈ [0, 1, 2, 3, 4, 5, 7], ∀ u ∈ lits, (leT n q == u) = false := by decide +kernel
 exact k q (by rcases h with rfl | rfl | rfl <;> decide) n (by simp; omega)
def Mem (t : Tx) : Prop := t = [40, 72, 76, 41] ∨ t = [40, 73, 88, 43, 100, 41] ∨ t = [40, 73, 89, 43, 100, 41]
theorem VE {x b tq : Nat} {L : Zj} {t : Tx} {g : Rg → Nat} {st : Rg → Nat → Rg} {bd : Nat} (hN : Nm t g st bd) (z : Nat) (hz : Hid (g s.r = z)) (hF : s.r.Fits) (HQ : Hid (Own W0 w ((x, 58, xc s b tq ix pg) :: L))) :
  CB 22 #[.pointer (some ⟨x, 0, none⟩), .string ⟨t.toArray⟩] w (.int .i64 (z : Int)) := by
 have hg := Zb (fun w => hN.get s.r w hF)
 rw [hz.out] at hg
 have HC := Zb (HQ.out.cells_at .z)
 have HM := Zb (Own.start w)
 clear HQ
 go_enter Tryz.func22, Tryz.ntmps22
 go_wp2_with (first | ((with_reducible apply V0 HM); exact rfl; exact rfl; (with_reducible exact aggR); exact HC.out; exact .z; exact xc_take29; exact rfl) | (go_at_call 43; (with_reducible refine (hg.out _).mono ?_); rintro e w' ⟨rfl, hb⟩; replace HM := Zb (HM.out.call hb); clear hb))
 go_ret
 exact ⟨rfl, Own.fin HM⟩
theorem ZgJ (a v : Nat) (s' : Cs) (ha : a < 65536) (hv : v < 65536) (hs : Hid (s.setNum a v = s')) (H : Hid (Ex W0 w x b s tq ix pg l (n + 2))) :
  CX 101 #[.pointer (some ⟨x, 0, none⟩), .int .i64 (a : Int), .int .i64 (v : Int)] w (.tuple #[]) fun w' => Hid (Ex W0 w' x b s' tq ix pg l n) := by
 obtain ⟨lo, hlo⟩ : ∃ x, Hid (v % 256 = x) := ⟨_, rfl⟩
 obtain ⟨hi, hhi⟩ : ∃ x, Hid (v / 256 = x) := ⟨_, rfl⟩
 obtain ⟨s1, hs1⟩ : ∃ x, Hid (s.wr a lo = x) := ⟨_, rfl⟩
 obtain ⟨s2, hs2⟩ : ∃ x, Hid (s1.wr (up1 a) hi = x) := ⟨_, rfl⟩
 have ya1 : lo < 256 := by have := hlo.out; omega
 have a2 : hi < 256 := by have := hhi.out; omega
 have a3 := Zy a
 have es : s2 = s' := by rw [← hs.out, ← hs2.out, ← hs1.out, ← hlo.out, ← hhi.out]; rfl
 have e1 : IntKind.u16.wrap ((a : Int) + 1) = ((up1 a : Nat) : Int) := by unfold up1; show ((a : Int) + 1) % 65536 = _; omega
 have e3 : (v : Int).tdiv 256 = (hi : Int) := by rw [Int.tdiv_eq_ediv_of_nonneg (by omega)]; have := hhi.out; omega
 have e4 : (v : Int).tmod 256 = (lo : Int) := by rw [Int.tmod_eq_emod_of_nonneg (by omega)]; have := hlo.out; omega
 go_enter Tryz.func101, Tryz.ntmps101
 go_wp2_with (first | refine a1 ?_ | (go_at_call 59; (with_reducible refine (JJ a lo s1 ha ya1 hs1 H).mono ?_); clear H; rintro e w' ⟨rfl, H⟩) | (go_at_call 59; (with_reducible refine (JJ (up1 a) hi s2 a3 a2 hs2 H).mono ?_); clear H; rintro e w' ⟨rfl, H⟩) | fail)
 (first | go_end0 | ((try simp only [Exit.inBlock, Exit.then]); refine bodyPost_ret (results_none rfl _ _ _) rfl ?_))
 exact ⟨rfl, es ▸ H⟩
theorem ZiH (a v : Nat) (s' : Cs) (ha : a < 65536) (hv : Hid (s.numV a = v)) (hs : Hid (s.num a = s')) (H : Hid (Ex W0 w x b s tq ix pg l (n + 2))) :
  CX 28 #[.pointer (some ⟨x, 0, none⟩), .int .i64 (a : Int)] w (.int .i64 (v : Int)) fun w' => v < 65536 ∧ Hid (Ex W0 w' x b s' tq ix pg l n) := by
 have v8 : v < 65536 := by
  rw [← hv.out]
  have h1 : s.m (up1 a) < 256 := Ex.m8 H _
  have h2 : s.m a < 256 := Ex.m8 H _
  show s.m (up1 a) * 256 + s.m a < 65536
  omega
 have h := yN a ha H
 rw [hv.out, hs.out] at h
 exact h.mono fun _ _ ⟨he, hh⟩ => ⟨he, v8, hh⟩
theorem Zlj (p d q : Nat) (hp : p < 65536) (hd : d < 65536) (hq : (p + d) % 65536 = q) : ∃ u : Int, ((p : Int) + (d : Int)).tmod 65536 = u ∧ (u + 65536).tmod 65536 = (q : Int) ∧ -65536 < u ∧ u < 65536 := by
 refine ⟨(q : Int), ?_, ?_, by omega, by omega⟩
 ·rw [Int.tmod_eq_emod_of_nonneg (by omega)]; omega
 ·rw [Int.tmod_eq_emod_of_nonneg (by omega)]; omega
theorem Zke (v : Nat) (s' : Cs) (hv : Hid (s.popV = v)) (hs : Hid (s.pop = s')) (H : Hid (Ex W0 w x b s tq ix pg l (n + 2))) :
  CX 50 #[.pointer (some ⟨x, 0, none⟩)] w (.int .i64 (v : Int)) fun w' => v < 65536 ∧ Hid (Ex W0 w' x b s' tq ix pg l n) := by
 obtain ⟨s1, hs1⟩ : ∃ x, Hid (s.num s.r.sp = x) := ⟨_, rfl⟩
 obtain ⟨z, hz⟩ : ∃ x, Hid (s.r.sp = x) := ⟨_, rfl⟩
 obtain ⟨q, hq⟩ : ∃ x, Hid ((z + 2) % 65536 = x) := ⟨_, rfl⟩
 obtain ⟨r1, hr1⟩ : ∃ x, Hid (({ s1.r with sp := q } : Rg) = x) := ⟨_, rfl⟩
 have z8 : z < 65536 := by rw [← hz.out]; exact H.out.fits.sp
 have hy : Hid (s1.r.sp = z) := Zb (by rw [← hz.out, ← hs1.out]; rfl)
 have hv2 : Hid (s.numV z = v) := Zb (by rw [← hz.out]; exact hv.out)
 have hs12 : Hid (s.num z = s1) := Zb (by rw [← hz.out]; exact hs1.out)
 have q8 : q < 65536 := by have := hq.out; omega
 obtain ⟨u, hu1, hu2, hu3, hu4⟩ := Zlj z 2 q (by omega) (by decide) hq.out
 have hu1 : ((z : Int) + 2).tmod 65536 = u := hu1
 have es : s1.setR r1 = s' := by rw [← hs.out, ← hr1.out, ← hq.out, ← hz.out, ← hs1.out]; rfl
 go_enter Tryz.func50, Tryz.ntmps50
 go_upto_region 2 with (first | (go_at_call 22; (with_reducible refine (Yq nmSP z hz H).mono ?_); clear H; rintro e w' ⟨rfl, H⟩) | (go_at_call 28; (with_reducible refine (ZiH z v s1 z8 hv2 hs12 H).mono ?_); clear H; rintro e w' ⟨rfl, bv, H⟩) | fail)
 go_wp2_with (first | (go_at_call 22; (with_reducible refine (Yq nmSP z hy H).mono ?_); clear H; rintro e w' ⟨rfl, H⟩) | (go_at_call 49; (with_reducible refine (Y1 nmSP _ u q q8 hu1 hu2 hu3 hu4 r1 hr1 H).mono ?_); clear H; rintro e w' ⟨rfl, H⟩) | fail)
 go_ret
 exact ⟨rfl, bv, es ▸ H⟩
theorem yR {t : Tx} {g : Rg → Nat} {st : Rg → Nat → Rg} (hN : Nm t g st 65536) (v r : Nat) (s' : Cs) (hv : Hid (s.nextV = v)) (hr : Hid (wMove (g s.r) v = r)) (hs : Hid (s.next.setWZ r = s')) (H : Hid (Ex W0 w x b s tq ix pg l (n + 1))) :
  CX 18 #[.pointer (some ⟨x, 0, none⟩), .string ⟨t.toArray⟩] w (.tuple #[]) fun w' => r < 65536 ∧ Hid (Ex W0 w' x b s' r true pg l n) := by
 obtain ⟨s1, hs1⟩ : ∃ x, Hid (s.next = x) := ⟨_, rfl⟩
 obtain ⟨z, hz⟩ : ∃ x, Hid (g s.r = x) := ⟨_, rfl⟩
 have z8 : z < 65536 := by rw [← hz.out]; exact hN.lt _ H.out.fits
 have hr2 : Hid (wMove z v = r) := Zb (by rw [← hz.out]; exact hr.out)
 have r8 : r < 65536 := by rw [← hr.out]; exact Zt _ _
 have es : s1.setWZ r = s' := by rw [← hs.out, ← hs1.out]
 clear hr
 go_enter Tryz.func18, Tryz.ntmps18
 go_wp2_with (first | refine a1 ?_ | (refine a2 ?_; clear H; intro w' H) | (go_at_call 22; (with_reducible refine (Yq hN z hz H).mono ?_); clear H; rintro e w' ⟨rfl, H⟩) | (go_at_call 19; (with_reducible refine (VC v s1 hv hs1 H).mono ?_); clear H; rintro e w' ⟨rfl, bv, H⟩) | (go_at_call 35; (with_reducible refine (JC z v r z8 bv hr2 _).mono ?_); rintro e w' ⟨rfl, rfl⟩) | fail)
 (first | go_end0 | ((try simp only [Exit.inBlock, Exit.then]); refine bodyPost_ret (results_none rfl _ _ _) rfl ?_))
 first | exact ⟨rfl, r8, es ▸ H⟩ | exact ⟨rfl, es ▸ H⟩
theorem k51 {P : Prop} (h : P := by
 go_enter Tryz.func90, Tryz.ntmps90
 go_wp2
 go_ret
 exact ⟨rfl, rfl⟩) : P := h
theorem ZiI (w : World) : CW 90 #[.string ⟨#[40, 72, 76, 41]⟩] w (.bool true) := by
 exact k51
theorem ZiJ (w : World) : CW 90 #[.string ⟨#[40, 73, 88, 43, 100, 41]⟩] w (.bool true) := by
 exact k51
theorem ZiK (w : World) : CW 90 #[.string ⟨#[40, 73, 89, 43, 100, 41]⟩] w (.bool true) := by
 exact k51
theorem Zlk (t : Tx) (h : Mem t) (w : World) : CW 90 #[.string ⟨t.toArray⟩] w (.bool true) := by
 rcases h with rfl | rfl | rfl
 ·exact ZiI w
 ·exact ZiJ w
 ·exact ZiK w
theorem YW (t : Tx) (h1 : (t == [40, 72, 76, 41]) = false) (h2 : (t == [40, 73, 88, 43, 100, 41]) = false) (h3 : (t == [40, 73, 89, 43, 100, 41]) = false) (w : World) : CW 90 #[.string ⟨t.toArray⟩] w (.bool false) := by
 exact k51
theorem Uc (t : Tx) (p q r : Int) (utHL : (t == [40, 72, 76, 41]) = false) (utIX : (t == [40, 73, 88, 43, 100, 41]) = false) (utIY : (t == [40, 73, 89, 43, 100, 41]) = false) (H : Hid (Ex W0 w x b s tq ix pg l n)) :
  CX 89 #[.pointer (some ⟨x, 0, none⟩), .string ⟨t.toArray⟩, .int .i64 p, .int .i64 q, .int .i64 r] w (.int .i64 p) fun w' => Hid (Ex W0 w' x b s tq ix pg l n) := by
 go_enter Tryz.func89, Tryz.ntmps89
 go_wp2_with (first | (go_at_call 90; (with_reducible refine (YW _ utHL utIX utIY _).mono ?_); rintro e w' ⟨rfl, rfl⟩) | fail)
 go_ret
 exact ⟨rfl, H⟩
theorem k54 {P : Prop} (h : P := by
 go_wp2_with (first | refine a1 ?_ | (go_at_call 90; (with_reducible refine (Zlk _ hM _).mono ?_); rintro e w' ⟨rfl, rfl⟩) | fail)
 go_ret
 exact ⟨rfl, H⟩) : P := h
theorem JR (t : Tx) (hM : Mem t) (p q r c : Int) (hc : cond ix r q = c) (H : Hid (Ex W0 w x b s tq ix pg l n)) :
  CX 89 #[.pointer (some ⟨x, 0, none⟩), .string ⟨t.toArray⟩, .int .i64 p, .int .i64 q, .int .i64 r] w (.int .i64 c) fun w' => Hid (Ex W0 w' x b s tq ix pg l n) := by
 subst hc
 cases ix
 ·go_enter Tryz.func89, Tryz.ntmps89
  exact k54
 ·go_enter Tryz.func89, Tryz.ntmps89
  exact k54
theorem Kb {t : Tx} {g : Rg → Nat} {st : Rg → Nat → Rg} (hN : Nm t g st 256) (utn : (t == [110]) = false) (utHL : (t == [40, 72, 76, 41]) = false) (utIX : (t == [40, 73, 88, 43, 100, 41]) = false) (utIY : (t == [40, 73, 89, 43, 100, 41]) = false) (utBC : (t == [40, 66, 67, 41]) = false) (utDE : (t == [40, 68, 69, 41]) = false) (v : Nat) (hv : Hid (g s.r = v)) (H : Hid (Ex W0 w x b s tq ix pg l n)) :
  CX 88 #[.pointer (some ⟨x, 0, none⟩), .string ⟨t.toArray⟩] w (.int .u8 (v : Int)) fun w' => v < 256 ∧ Hid (Ex W0 w' x b s tq ix pg l n) := by
 have v8 : v < 256 := by rw [← hv.out]; exact hN.lt _ H.out.fits
 go_enter Tryz.func88, Tryz.ntmps88
 go_wp2_with (first | (go_at_call 90; (with_reducible refine (YW _ utHL utIX utIY _).mono ?_); rintro e w' ⟨rfl, rfl⟩) | (go_at_call 22; (with_reducible refine (Yq hN v hv H).mono ?_); clear H; rintro e w' ⟨rfl, H⟩) | fail)
 go_ret
 exact ⟨rfl, v8, H⟩
theorem Jm (t : Tx) (hM : Mem t) (v : Nat) (s' : Cs) (hq : tq < 65536) (hv : Hid (s.m tq = v)) (hs : Hid (s.rd tq = s')) (H : Hid (Ex W0 w x b s tq ix pg l (n + 1))) :
  CX 88 #[.pointer (some ⟨x, 0, none⟩), .string ⟨t.toArray⟩] w (.int .u8 (v : Int)) fun w' => v < 256 ∧ Hid (Ex W0 w' x b s' tq ix pg l n) := by
 have utn : (t == [110]) = false := by rcases hM with rfl | rfl | rfl <;> decide
 have utBC : (t == [40, 66, 67, 41]) = false := by rcases hM with rfl | rfl | rfl <;> decide
 have utDE : (t == [40, 68, 69, 41]) = false := by rcases hM with rfl | rfl | rfl <;> decide
 go_enter Tryz.func88, Tryz.ntmps88
 go_upto_region 4 with (first | (go_at_call 90; (with_reducible refine (Zlk _ hM _).mono ?_); rintro e w' ⟨rfl, rfl⟩) | fail)
 obtain ⟨HF, HG, X, HX, HM⟩ := H.out.hid
 (refine Zk 8 HM (by kernel_rfl) (by kernel_rfl) (by kernel_rfl) ?_; simp only [List.take_succ_cons, List.take_zero, List.drop_succ_cons, List.drop_zero]; (try simp only [Act.put, Ze, Zc, Zd]); repeat ((fail_if_success (with_reducible refine wpQuiet_nil ?_)); first | go_big_quiet_skip | (go_big_quiet_want; first | (refine a17 ?_; go_big_quiet_op; go_big_quiet_on) | (refine a18 ?_; go_big_quiet_op; go_big_quiet_on) | (go_big_quiet_op; go_big_quiet_on) | (go_big_quiet_op; refine ⟨_, fun _ _ => rfl, ?_⟩; go_big_quiet_on))))
 refine wpQuiet_nil ?_
 intro w' HM'
 clear H
 have H := Zb (Ex.made HM'.out HG.out HX.out HF.out)
 clear HM HM' HF HG HX
 go_wp2_with (first | (go_at_call 36; (with_reducible refine (VV tq v s' hq hv hs H).mono ?_); clear H; rintro e w' ⟨rfl, v8, H⟩) | fail)
 go_ret
 exact ⟨rfl, v8, H⟩
theorem jK (v : Nat) (s' : Cs) (hv : Hid (s.nextV = v)) (hs : Hid (s.next = s')) (H : Hid (Ex W0 w x b s tq ix pg l (n + 1))) :
  CX 88 #[.pointer (some ⟨x, 0, none⟩), .string ⟨#[110]⟩] w (.int .u8 (v : Int)) fun w' => v < 256 ∧ Hid (Ex W0 w' x b s' tq ix pg l n) := by
 go_enter Tryz.func88, Tryz.ntmps88
 go_wp2_with (first | (go_at_call 19; (with_reducible refine (VC v s' hv hs H).mono ?_); clear H; rintro e w' ⟨rfl, bv, H⟩) | fail)
 go_ret
 exact ⟨rfl, bv, H⟩
theorem Zfr (z v : Nat) (s' : Cs) (hz : Hid (s.r.b * 256 + s.r.c = z)) (hv : Hid (s.m z = v)) (hs : Hid (s.rd z = s')) (H : Hid (Ex W0 w x b s tq ix pg l (n + 1))) :
  CX 88 #[.pointer (some ⟨x, 0, none⟩), .string ⟨#[40, 66, 67, 41]⟩] w (.int .u8 (v : Int)) fun w' => v < 256 ∧ Hid (Ex W0 w' x b s' tq ix pg l n) := by
 have z8 : z < 65536 := by have h := H.out.fits; have := h.b; have := h.c; have := h.d; have := h.e; have := hz.out; omega
 go_enter Tryz.func88, Tryz.ntmps88
 go_upto_region 7 with (first | (go_at_call 90; (with_reducible refine (YW _ rfl rfl rfl _).mono ?_); rintro e w' ⟨rfl, rfl⟩) | fail)
 obtain ⟨HF, HG, X, HX, HM⟩ := H.out.hid
 (refine Zk 9 HM (by kernel_rfl) (by kernel_rfl) (by kernel_rfl) ?_; simp only [List.take_succ_cons, List.take_zero, List.drop_succ_cons, List.drop_zero]; (try simp only [Act.put, Ze, Zc, Zd]); repeat ((fail_if_success (with_reducible refine wpQuiet_nil ?_)); first | go_big_quiet_skip | (go_big_quiet_want; first | (refine a34 ?_; go_big_quiet_op; go_big_quiet_on) | (refine a17 ?_; go_big_quiet_op; go_big_quiet_on) | (refine a18 ?_; go_big_quiet_op; go_big_quiet_on) | ((with_reducible apply Zh); exact fun w => rfl; (focus (go_simp; all_goals with_reducible rfl)); (intro wq HQ; first | (with_reducible exact (VE nmBC z hz HF.out HQ))); go_big_quiet_op; go_big_quiet_on) | (go_big_quiet_op; go_big_quiet_on) | (go_big_quiet_op; refine ⟨_, fun _ _ => rfl, ?_⟩; go_big_quiet_on))))
 refine wpQuiet_nil ?_
 intro w' HM'
 clear H
 have H := Zb (Ex.made HM'.out HG.out HX.out HF.out)
 clear HM HM' HF HG HX
 go_wp2_with (first | (go_at_call 36; (with_reducible refine (VV z v s' z8 hv hs H).mono ?_); clear H; rintro e w' ⟨rfl, v8, H⟩) | fail)
 go_ret
 exact ⟨rfl, v8, H⟩
theorem Zfs (z v : Nat) (s' : Cs) (hz : Hid (s.r.d * 256 + s.r.e = z)) (hv : Hid (s.m z = v)) (hs : Hid (s.rd z = s')) (H : Hid (Ex W0 w x b s tq ix pg l (n + 1))) :
  CX 88 #[.pointer (some ⟨x, 0, none⟩), .string ⟨#[40, 68, 69, 41]⟩] w (.int .u8 (v : Int)) fun w' => v < 256 ∧ Hid (Ex W0 w' x b s' tq ix pg l n) := by
 have z8 : z < 65536 := by have h := H.out.fits; have := h.b; have := h.c; have := h.d; have := h.e; have := hz.out; omega
 go_enter Tryz.func88, Tryz.ntmps88
 go_upto_region 7 with (first | (go_at_call 90; (with_reducible refine (YW _ rfl rfl rfl _).mono ?_); rintro e w' ⟨rfl, rfl⟩) | fail)
 obtain ⟨HF, HG, X, HX, HM⟩ := H.out.hid
 (refine Zk 9 HM (by kernel_rfl) (by kernel_rfl) (by kernel_rfl) ?_; simp only [List.take_succ_cons, List.take_zero, List.drop_succ_cons, List.drop_zero]; (try simp only [Act.put, Ze, Zc, Zd]); repeat ((fail_if_success (with_reducible refine wpQuiet_nil ?_)); first | go_big_quiet_skip | (go_big_quiet_want; first | (refine a34 ?_; go_big_quiet_op; go_big_quiet_on) | (refine a17 ?_; go_big_quiet_op; go_big_quiet_on) | (refine a18 ?_; go_big_quiet_op; go_big_quiet_on) | ((with_reducible apply Zh); exact fun w => rfl; (focus (go_simp; all_goals with_reducible rfl)); (intro wq HQ; first | (with_reducible exact (VE nmDE z hz HF.out HQ))); go_big_quiet_op; go_big_quiet_on) | (go_big_quiet_op; go_big_quiet_on) | (go_big_quiet_op; refine ⟨_, fun _ _ => rfl, ?_⟩; go_big_quiet_on))))
 refine wpQuiet_nil ?_
 intro w' HM'
 clear H
 have H := Zb (Ex.made HM'.out HG.out HX.out HF.out)
 clear HM HM' HF HG HX
 go_wp2_with (first | (go_at_call 36; (with_reducible refine (VV z v s' z8 hv hs H).mono ?_); clear H; rintro e w' ⟨rfl, v8, H⟩) | fail)
 go_ret
 exact ⟨rfl, v8, H⟩
theorem Zkf {t : Tx} {g : Rg → Nat} {st : Rg → Nat → Rg} (hN : Nm t g st 256) (_utn : (t == [110]) = false) (utHL : (t == [40, 72, 76, 41]) = false) (utIX : (t == [40, 73, 88, 43, 100, 41]) = false) (utIY : (t == [40, 73, 89, 43, 100, 41]) = false) (utBC : (t == [40, 66, 67, 41]) = false) (utDE : (t == [40, 68, 69, 41]) = false) (v : Nat) (hv : v < 256) (r : Rg) (hr : Hid (st s.r v = r)) (H : Hid (Ex W0 w x b s tq ix pg l n)) :
  CX 87 #[.pointer (some ⟨x, 0, none⟩), .string ⟨t.toArray⟩, .int .u8 (v : Int)] w (.tuple #[]) fun w' => Hid (Ex W0 w' x b (s.setR r) tq ix pg l n) := by
 go_enter Tryz.func87, Tryz.ntmps87
 go_wp2_with (first | (go_at_call 90; (with_reducible refine (YW _ utHL utIX utIY _).mono ?_); rintro e w' ⟨rfl, rfl⟩) | (go_at_call 49; (with_reducible refine (Z1 hN v hv r hr H).mono ?_); clear H; rintro e w' ⟨rfl, H⟩) | fail)
 (first | go_end0 | ((try simp only [Exit.inBlock, Exit.then]); refine bodyPost_ret (results_none rfl _ _ _) rfl ?_))
 exact ⟨rfl, H⟩
theorem Kc (t : Tx) (hM : Mem t) (v : Nat) (s' : Cs) (hq : tq < 65536) (hv : v < 256) (hs : Hid (s.wr tq v = s')) (H : Hid (Ex W0 w x b s tq ix pg l (n + 1))) :
  CX 87 #[.pointer (some ⟨x, 0, none⟩), .string ⟨t.toArray⟩, .int .u8 (v : Int)] w (.tuple #[]) fun w' => Hid (Ex W0 w' x b s' tq ix pg l n) := by
 have utn : (t == [110]) = false := by rcases hM with rfl | rfl | rfl <;> decide
 have utBC : (t == [40, 66, 67, 41]) = false := by rcases hM with rfl | rfl | rfl <;> decide
 have utDE : (t == [40, 68, 69, 41]) = false := by rcases hM with rfl | rfl | rfl <;> decide
 go_enter Tryz.func87, Tryz.ntmps87
 go_upto_region 2 with (first | (go_at_call 90; (with_reducible refine (Zlk _ hM _).mono ?_); rintro e w' ⟨rfl, rfl⟩) | fail)
 obtain ⟨HF, HG, X, HX, HM⟩ := H.out.hid
 (refine Zk 9 HM (by kernel_rfl) (by kernel_rfl) (by kernel_rfl) ?_; simp only [List.take_succ_cons, List.take_zero, List.drop_succ_cons, List.drop_zero]; (try simp only [Act.put, Ze, Zc, Zd]); repeat ((fail_if_success (with_reducible refine wpQuiet_nil ?_)); first | go_big_quiet_skip | (go_big_quiet_want; first | (refine a17 ?_; go_big_quiet_op; go_big_quiet_on) | (refine a18 ?_; go_big_quiet_op; go_big_quiet_on) | (go_big_quiet_op; go_big_quiet_on) | (go_big_quiet_op; refine ⟨_, fun _ _ => rfl, ?_⟩; go_big_quiet_on))))
 refine wpQuiet_nil ?_
 intro w' HM'
 clear H
 have H := Zb (Ex.made HM'.out HG.out HX.out HF.out)
 clear HM HM' HF HG HX
 go_wp2_with (first | (go_at_call 59; (with_reducible refine (JJ tq v s' hq hv hs H).mono ?_); clear H; rintro e w' ⟨rfl, H⟩) | fail)
 (first | go_end0 | ((try simp only [Exit.inBlock, Exit.then]); refine bodyPost_ret (results_none rfl _ _ _) rfl ?_))
 exact ⟨rfl, H⟩
theorem ZiL (z v : Nat) (s' : Cs) (hv : v < 256) (hz : Hid (s.r.b * 256 + s.r.c = z)) (hs : Hid (s.wr z v = s')) (H : Hid (Ex W0 w x b s tq ix pg l (n + 1))) :
  CX 87 #[.pointer (some ⟨x, 0, none⟩), .string ⟨#[40, 66, 67, 41]⟩, .int .u8 (v : Int)] w (.tuple #[]) fun w' => Hid (Ex W0 w' x b s' tq ix pg l n) := by
 have z8 : z < 65536 := by have h := H.out.fits; have := h.b; have := h.c; have := h.d; have := h.e; have := hz.out; omega
 go_enter Tryz.func87, Tryz.ntmps87
 go_upto_region 5 with (first | (go_at_call 90; (with_reducible refine (YW _ rfl rfl rfl _).mono ?_); rintro e w' ⟨rfl, rfl⟩) | fail)
 obtain ⟨HF, HG, X, HX, HM⟩ := H.out.hid
 (refine Zk 10 HM (by kernel_rfl) (by kernel_rfl) (by kernel_rfl) ?_; simp only [List.take_succ_cons, List.take_zero, List.drop_succ_cons, List.drop_zero]; (try simp only [Act.put, Ze, Zc, Zd]); repeat ((fail_if_success (with_reducible refine wpQuiet_nil ?_)); first | go_big_quiet_skip | (go_big_quiet_want; first | (refine a34 ?_; go_big_quiet_op; go_big_quiet_on) | (refine a17 ?_; go_big_quiet_op; go_big_quiet_on) | (refine a18 ?_; go_big_quiet_op; go_big_quiet_on) | ((with_reducible apply Zh); exact fun w => rfl; (focus (go_simp; all_goals with_reducible rfl)); (intro wq HQ; first | (with_reducible exact (VE nmBC z hz HF.out HQ))); go_big_quiet_op; go_big_quiet_on) | (go_big_quiet_op; go_big_quiet_on) | (go_big_quiet_op; refine ⟨_, fun _ _ => rfl, ?_⟩; go_big_quiet_on))))
 refine wpQuiet_nil ?_
 intro w' HM'
 clear H
 have H := Zb (Ex.made HM'.out HG.out HX.out HF.out)
 clear HM HM' HF HG HX
 go_wp2_with (first | (go_at_call 59; (with_reducible refine (JJ z v s' z8 hv hs H).mono ?_); clear H; rintro e w' ⟨rfl, H⟩) | fail)
 (first | go_end0 | ((try simp only [Exit.inBlock, Exit.then]); refine bodyPost_ret (results_none rfl _ _ _) rfl ?_))
 exact ⟨rfl, H⟩
theorem ZiM (z v : Nat) (s' : Cs) (hv : v < 256) (hz : Hid (s.r.d * 256 + s.r.e = z)) (hs : Hid (s.wr z v = s')) (H : Hid (Ex W0 w x b s tq ix pg l (n + 1))) :
  CX 87 #[.pointer (some ⟨x, 0, none⟩), .string ⟨#[40, 68, 69, 41]⟩, .int .u8 (v : Int)] w (.tuple #[]) fun w' => Hid (Ex W0 w' x b s' tq ix pg l n) := by
 have z8 : z < 65536 := by have h := H.out.fits; have := h.b; have := h.c; have := h.d; have := h.e; have := hz.out; omega
 go_enter Tryz.func87, Tryz.ntmps87
 go_upto_region 5 with (first | (go_at_call 90; (with_reducible refine (YW _ rfl rfl rfl _).mono ?_); rintro e w' ⟨rfl, rfl⟩) | fail)
 obtain ⟨HF, HG, X, HX, HM⟩ := H.out.hid
 (refine Zk 10 HM (by kernel_rfl) (by kernel_rfl) (by kernel_rfl) ?_; simp only [List.take_succ_cons, List.take_zero, List.drop_succ_cons, List.drop_zero]; (try simp only [Act.put, Ze, Zc, Zd]); repeat ((fail_if_success (with_reducible refine wpQuiet_nil ?_)); first | go_big_quiet_skip | (go_big_quiet_want; first | (refine a34 ?_; go_big_quiet_op; go_big_quiet_on) | (refine a17 ?_; go_big_quiet_op; go_big_quiet_on) | (refine a18 ?_; go_big_quiet_op; go_big_quiet_on) | ((with_reducible apply Zh); exact fun w => rfl; (focus (go_simp; all_goals with_reducible rfl)); (intro wq HQ; first | (with_reducible exact (VE nmDE z hz HF.out HQ))); go_big_quiet_op; go_big_quiet_on) | (go_big_quiet_op; go_big_quiet_on) | (go_big_quiet_op; refine ⟨_, fun _ _ => rfl, ?_⟩; go_big_quiet_on))))
 refine wpQuiet_nil ?_
 intro w' HM'
 clear H
 have H := Zb (Ex.made HM'.out HG.out HX.out HF.out)
 clear HM HM' HF HG HX
 go_wp2_with (first | (go_at_call 59; (with_reducible refine (JJ z v s' z8 hv hs H).mono ?_); clear H; rintro e w' ⟨rfl, H⟩) | fail)
 (first | go_end0 | ((try simp only [Exit.inBlock, Exit.then]); refine bodyPost_ret (results_none rfl _ _ _) rfl ?_))
 exact ⟨rfl, H⟩
theorem zi (k n : Nat) : nOnes (k + 1) n = n % 2 + nOnes k (n / 2) := rfl
theorem Zdo (k : Nat) : nOnes k 0 = 0 := by
 induction k with
 | zero => rfl
 | succ k ih => rw [zi, Nat.zero_div, ih]
theorem JS (v : Nat) (h : v < 256) (w : World) : CW 104 #[.int .u8 (v : Int)] w (.bool (Jt v)) := by
 obtain ⟨p, hp⟩ : ∃ p, nOnes 8 v = p := ⟨_, rfl⟩
 have hq : Jt v = Nat.beq (Nat.mod p 2) 0 := by rw [← hp]; rfl
 rw [hq]
 have HP := Zb hp
 have HV := Zb h
 clear hp hq h
 go_enter Tryz.func104, Tryz.ntmps104
 go_wp2
 go_loopw [0, 3] (fun n o wr => ∃ k m j : Nat, k ≤ 8 ∧ m < 256 ∧ j + k ≤ 8 ∧ n = .int .u8 m ∧ o = .int .i64 j ∧ Hid (m < 2 ^ k ∧ j + nOnes k m = p) ∧ wr = w) (fun n _ _ => (intOf n).toNat)
 case atStart => exact ⟨8, v, 0, by omega, HV.out, by omega, rfl, rfl, ⟨HV.out, by rw [← HP.out]; omega⟩, rfl⟩
 case round =>
  obtain ⟨k, m, j, hk, hm, hj, rfl, rfl, HR, rfl⟩ := hrel
  have hm1 : (m : Int) < 256 := by omega
  have hq : ((m : Int)).tdiv 2 = (m : Int) / 2 := Int.tdiv_eq_ediv_of_nonneg (by omega)
  have hr : ((m : Int)).tmod 2 = (m : Int) % 2 := Int.tmod_eq_emod_of_nonneg (by omega)
  by_cases h0 : (m : Int) = 0
  ·have e : j = p := by
    have h := HR.out.2
    obtain rfl : m = 0 := by omega
    rw [Zdo] at h; omega
   have hj1 : (j : Int) ≤ 8 := by omega
   have hj2 : ((j : Int)).tmod 2 = (j : Int) % 2 := Int.tmod_eq_emod_of_nonneg (by omega)
   have HE := Zb e
   clear HR hk hj e hm
   go_wp2
   go_ret
   refine ⟨Zab ?_, rfl⟩
   rw [← HE.out, Bool.eq_iff_iff, Nat.beq_eq]
   show _ ↔ j % 2 = 0
   simp
   omega
  ·have h0' : (0 : Int) < (m : Int) := by omega
   have hk0 : k ≠ 0 := by
    rintro rfl
    have := HR.out.1
    simp at this
    omega
   obtain ⟨k, rfl⟩ : ∃ k', k = k' + 1 := ⟨k - 1, by omega⟩
   have HR2 : Hid (m / 2 < 2 ^ k ∧ (j + m % 2) + nOnes k (m / 2) = p) := by
    have h := HR.out
    rw [zi, Nat.pow_succ] at h
    exact ⟨by omega, by omega⟩
   have hj1 : (j : Int) ≤ 8 := by omega
   have HK : Hid (k + 1 ≤ 8 ∧ j + (k + 1) ≤ 8) := ⟨hk, hj⟩
   clear HR hk hj hk0 hm h0
   go_wp2
   go_roundw
   case rel => exact ⟨k, m / 2, j + m % 2, by have := HK.out; omega, by omega, by have := HK.out; omega, by rw [Int.natCast_ediv]; rfl, by rw [Int.natCast_add, Int.natCast_emod]; rfl, HR2, trivial⟩
   case measure => simp [intOf]; omega
theorem zj (f : Nat) (s z y h x p n c : Bool) (hf : f < 256) (hr : Hid (Zf 128 f = s ∧ Zf 64 f = z ∧ Zf 32 f = y ∧ Zf 16 f = h ∧ Zf 8 f = x ∧ Zf 4 f = p ∧ Zf 2 f = n ∧ Zf 1 f = c)) (w : World) :
  CB 164 #[.int .u8 (f : Int)] w (.agg #[.bool s, .bool z, .bool y, .bool h, .bool x, .bool p, .bool n, .bool c]) := by
 obtain ⟨rfl, rfl, rfl, rfl, rfl, rfl, rfl, rfl⟩ := hr.out; exact WA f hf w
theorem JF (v : Nat) (p : Bool) (h : v < 256) (hp : Hid (Jt v = p)) (w : World) : CW 104 #[.int .u8 (v : Int)] w (.bool p) := by
 rw [← hp.out]; exact JS v h w
theorem Yk {v g : Nat} {a b : Int} (h : a = v) (h' : b = g) : (Ending.returned (.tuple #[.int .u8 a, .int .u8 b]) : Ending) = .returned (.tuple #[.int .u8 (v : Int), .int .u8 (g : Int)]) := by rw [h, h']
theorem jL (a b g : Nat) (ha : a < 256) (hb : b < 256) (hg : Hid (ZgY a b = g)) (w : World) :
  CB 167 #[.int .u8 (a : Int), .int .u8 (b : Int)] w (.int .u8 (g : Int)) := by
 have HM := Zb (Own.start w)
 obtain ⟨v, hv⟩ : ∃ v, Hid (ZY a b 0 = v) := ⟨_, rfl⟩
 obtain ⟨f, hf⟩ : ∃ f, Hid (ZU a b 0 = f) := ⟨_, rfl⟩
 have f1 : f < 256 := by rw [← hf.out]; exact YM _ _ _
 obtain ⟨s, z, y, h, x, p, n, c, ho⟩ : ∃ s z y h x p n c, Hid (Zf 128 f = s ∧ Zf 64 f = z ∧ Zf 32 f = y ∧ Zf 16 f = h ∧ Zf 8 f = x ∧ Zf 4 f = p ∧ Zf 2 f = n ∧ Zf 1 f = c) := ⟨_, _, _, _, _, _, _, _, rfl, rfl, rfl, rfl, rfl, rfl, rfl, rfl⟩
 have HG : Hid (Zq s z (Zf 32 b) h (Zf 8 b) p n c = g) := by
  show _ = _
  obtain ⟨rfl, rfl, rfl, rfl, rfl, rfl, rfl, rfl⟩ := ho.out
  rw [zL f b f1 hb, ← hg.out]; unfold ZgY; rw [hf.out]
 have q32 : ((b : Int) / 32 % 2 == 1) = Zf 32 b := ZS b 32 _ (by omega)
 have q8 : ((b : Int) / 8 % 2 == 1) = Zf 8 b := ZS b 8 _ (by omega)
 obtain ⟨y', hy⟩ : ∃ y', Zf 32 b = y' := ⟨_, rfl⟩
 obtain ⟨x', hx⟩ : ∃ x', Zf 8 b = x' := ⟨_, rfl⟩
 rw [hy] at q32 HG
 rw [hx] at q8 HG
 clear hg hy hx
 go_enter Tryz.func167, Tryz.ntmps167
 go_wp2_with (first | (refine b7 ?_; clear HM; intro w' g' HM) | refine b8 ?_ | (refine a12 ?_; clear HM; intro w' HM) | (go_at_call 108; refine (JQ a b false v f ha hb hv hf _).mono ?_; rintro e w' ⟨rfl, hb⟩; replace HM := Zb (HM.out.call hb); clear hb) | (go_at_call 164; (with_reducible refine (zj f s z y h x p n c f1 ho _).mono ?_); rintro e w' ⟨rfl, hb⟩; replace HM := Zb (HM.out.call hb); clear hb) | (go_at_call 86; (with_reducible refine (Zs s z y' h x' p n c g HG _).mono ?_); rintro e w' ⟨rfl, hb⟩; replace HM := Zb (HM.out.call hb); clear hb))
 go_ret
 exact ⟨rfl, Own.fin HM⟩
theorem k60 {P : Prop} (h : P := by
 show _ = _
 obtain ⟨rfl, rfl, rfl, rfl, rfl, rfl, rfl, rfl⟩ := ho.out
 rw [vE l f l1 hf, ← hg.out, hl.out]) : P := h
theorem US (a f v g : Nat) (ha : a < 256) (hf : f < 256) (hv : Hid (Yw a 1 0 = v)) (hg : Hid (YE (Yp a 1 0) f = g)) (w : World) :
  CB 92 #[.int .u8 (a : Int), .int .u8 (f : Int)] w (.tuple #[.int .u8 (v : Int), .int .u8 (g : Int)]) := by
 have HM := Zb (Own.start w)
 obtain ⟨l, hl⟩ : ∃ l, Hid (Yp a 1 0 = l) := ⟨_, rfl⟩
 have l1 : l < 256 := by rw [← hl.out]; exact JU _ _ _
 obtain ⟨s, z, y, h, x, p, n, c, ho⟩ : ∃ s z y h x p n c, Hid (Zf 128 l = s ∧ Zf 64 l = z ∧ Zf 32 l = y ∧ Zf 16 l = h ∧ Zf 8 l = x ∧ Zf 4 l = p ∧ Zf 2 l = n ∧ Zf 1 l = c) := ⟨_, _, _, _, _, _, _, _, rfl, rfl, rfl, rfl, rfl, rfl, rfl, rfl⟩
 have HG : Hid (Zq s z y h x p n (Zf 1 f) = g) := by
  exact k60
 have q1 : ((f : Int) % 2 == 1) = Zf 1 f := ZS f 1 _ (by omega)
 obtain ⟨c', hc⟩ : ∃ c', Zf 1 f = c' := ⟨_, rfl⟩
 rw [hc] at q1 HG
 clear hg hc
 go_enter Tryz.func92, Tryz.ntmps92
 go_wp2_with (first | (refine b7 ?_; clear HM; intro w' g' HM) | refine b8 ?_ | (refine a12 ?_; clear HM; intro w' HM) | (go_at_call 163; refine (jI a 1 false v l ha (by omega) hv hl _).mono ?_; rintro e w' ⟨rfl, hb⟩; replace HM := Zb (HM.out.call hb); clear hb) | (go_at_call 164; (with_reducible refine (zj l s z y h x p n c l1 ho _).mono ?_); rintro e w' ⟨rfl, hb⟩; replace HM := Zb (HM.out.call hb); clear hb) | (go_at_call 86; (with_reducible refine (Zs s z y h x p n c' g HG _).mono ?_); rintro e w' ⟨rfl, hb⟩; replace HM := Zb (HM.out.call hb); clear hb))
 go_ret2
 exact ⟨Yk rfl rfl, Own.fin HM⟩
theorem Zdp (a f v g : Nat) (ha : a < 256) (hf : f < 256) (hv : Hid (ZY a 1 0 = v)) (hg : Hid (YE (ZU a 1 0) f = g)) (w : World) :
  CB 93 #[.int .u8 (a : Int), .int .u8 (f : Int)] w (.tuple #[.int .u8 (v : Int), .int .u8 (g : Int)]) := by
 have HM := Zb (Own.start w)
 obtain ⟨l, hl⟩ : ∃ l, Hid (ZU a 1 0 = l) := ⟨_, rfl⟩
 have l1 : l < 256 := by rw [← hl.out]; exact YM _ _ _
 obtain ⟨s, z, y, h, x, p, n, c, ho⟩ : ∃ s z y h x p n c, Hid (Zf 128 l = s ∧ Zf 64 l = z ∧ Zf 32 l = y ∧ Zf 16 l = h ∧ Zf 8 l = x ∧ Zf 4 l = p ∧ Zf 2 l = n ∧ Zf 1 l = c) := ⟨_, _, _, _, _, _, _, _, rfl, rfl, rfl, rfl, rfl, rfl, rfl, rfl⟩
 have HG : Hid (Zq s z y h x p n (Zf 1 f) = g) := by
  exact k60
 have q1 : ((f : Int) % 2 == 1) = Zf 1 f := ZS f 1 _ (by omega)
 obtain ⟨c', hc⟩ : ∃ c', Zf 1 f = c' := ⟨_, rfl⟩
 rw [hc] at q1 HG
 clear hg hc
 go_enter Tryz.func93, Tryz.ntmps93
 go_wp2_with (first | (refine b7 ?_; clear HM; intro w' g' HM) | refine b8 ?_ | (refine a12 ?_; clear HM; intro w' HM) | (go_at_call 108; refine (JQ a 1 false v l ha (by omega) hv hl _).mono ?_; rintro e w' ⟨rfl, hb⟩; replace HM := Zb (HM.out.call hb); clear hb) | (go_at_call 164; (with_reducible refine (zj l s z y h x p n c l1 ho _).mono ?_); rintro e w' ⟨rfl, hb⟩; replace HM := Zb (HM.out.call hb); clear hb) | (go_at_call 86; (with_reducible refine (Zs s z y h x p n c' g HG _).mono ?_); rintro e w' ⟨rfl, hb⟩; replace HM := Zb (HM.out.call hb); clear hb))
 go_ret2
 exact ⟨Yk rfl rfl, Own.fin HM⟩
end
end Go.Proofs.YtgdeeiimkhjfiaaGreatDoor
