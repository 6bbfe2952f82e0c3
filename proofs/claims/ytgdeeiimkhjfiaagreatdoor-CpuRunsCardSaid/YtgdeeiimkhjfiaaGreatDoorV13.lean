import Derived.Test.YtgdeeiimkhjfiaaGreatDoorV12
set_option maxRecDepth 100000
set_option maxHeartbeats 6400000
namespace Go.Proofs.YtgdeeiimkhjfiaaGreatDoor
open Go.RowKit
section
variable {W0 w : World} {x b tq n c : Nat} {s : Cs} {ix : Bool} {pg : Int} {l : Zj}
theorem UM (hT : Hid (Tabs W0)) (y z p q : Nat) (hy : y < 8) (hz : z < 8) (hp : y / 2 = p) (hq : y % 2 = q) (h : Hid (Co W0 w c b s l (n + 4))) :
  CX 72 #[.pointer (some ⟨c, 0, none⟩), .agg #[.int .i64 0, .int .i64 (y : Int), .int .i64 (z : Int), .int .i64 (p : Int), .int .i64 (q : Int)]] w (.int .i64 ((s.plain0C y z : Nat) : Int)) fun w' => Hid (Co W0 w' c b (s.plain0 y z) l n) := by
 exact UL hT 0 y z p q rfl hy hz hp hq h
theorem ZhQ (y z p q : Nat) (h : Hid (Co W0 w c b s l (n + 3))) :
  CX 73 #[.pointer (some ⟨c, 0, none⟩), .agg #[.int .i64 1, .int .i64 (y : Int), .int .i64 (z : Int), .int .i64 (p : Int), .int .i64 (q : Int)]] w (.int .i64 ((s.moveC y z : Nat) : Int)) fun w' => Hid (Co W0 w' c b (s.move y z) l n) := by
 exact Zae 1 y z p q h
theorem WQ (hT : Hid (Tabs W0)) (y z p q : Nat) (hy : y < 8) (hz : z < 8) (hp : y / 2 = p) (hq : y % 2 = q) (h : Hid (Co W0 w c b s l (n + 4))) :
  CX 76 #[.pointer (some ⟨c, 0, none⟩), .agg #[.int .i64 3, .int .i64 (y : Int), .int .i64 (z : Int), .int .i64 (p : Int), .int .i64 (q : Int)]] w (.int .i64 ((s.plain3C y z : Nat) : Int)) fun w' => Hid (Co W0 w' c b (s.plain3 y z) l n) := by
 exact WP hT 3 y z p q hy hz hp hq h
theorem ZhR (y z p q : Nat) (hT : Hid (Tabs W0)) (hy : y < 8) (hz : z < 8) (hp : y / 2 = p) (hq : y % 2 = q) (h : Hid (Co W0 w c b s l (n + 4))) :
  CX 34 #[.pointer (some ⟨c, 0, none⟩), .agg #[.int .i64 0, .int .i64 (y : Int), .int .i64 (z : Int), .int .i64 (p : Int), .int .i64 (q : Int)]] w (.int .i64 ((s.plain0C y z : Nat) : Int)) fun w' => Hid (Co W0 w' c b (s.plain0 y z) l n) := by
 obtain ⟨X, HF, HG, HX, HM⟩ := h.out.hid
 have HF0 := HF
 clear h
 go_enter Tryz.func34, Tryz.ntmps34
 go_wp2_with (first | refine b6 ?_ | (refine cP ?_; clear HM; intro w' HM) | (refine a4 ?_; clear HM; intro w' g' HM) | (go_at_call 72; have hco := Za (l := _ :: l) HM HG HX; (with_reducible refine (UM hT y z p q hy hz hp hq hco).mono (Z2 ?_)); clear hco HM HF HG HX; intro w' X HF HG HX HM))
 go_ret
 have hco := Co.ok (l := _ :: l) HM.out HG.out HX.out
 exact ⟨rfl, Zb (hco.drop.less (by omega))⟩
theorem ZhS (y z p q : Nat) (h : Hid (Co W0 w c b s l (n + 4))) :
  CX 34 #[.pointer (some ⟨c, 0, none⟩), .agg #[.int .i64 1, .int .i64 (y : Int), .int .i64 (z : Int), .int .i64 (p : Int), .int .i64 (q : Int)]] w (.int .i64 ((s.moveC y z : Nat) : Int)) fun w' => Hid (Co W0 w' c b (s.move y z) l n) := by
 obtain ⟨X, HF, HG, HX, HM⟩ := h.out.hid
 have HF0 := HF
 clear h
 go_enter Tryz.func34, Tryz.ntmps34
 go_wp2_with (first | refine b6 ?_ | (refine cP ?_; clear HM; intro w' HM) | (refine a4 ?_; clear HM; intro w' g' HM) | (go_at_call 73; have hco := Za (l := _ :: l) HM HG HX; (with_reducible refine (ZhQ y z p q hco).mono (Z2 ?_)); clear hco HM HF HG HX; intro w' X HF HG HX HM))
 go_ret
 have hco := Co.ok (l := _ :: l) HM.out HG.out HX.out
 exact ⟨rfl, Zb (hco.drop.less (by omega))⟩
theorem ZhT (y z p q : Nat) (hy : y < 8) (h : Hid (Co W0 w c b s l (n + 4))) :
  CX 34 #[.pointer (some ⟨c, 0, none⟩), .agg #[.int .i64 2, .int .i64 (y : Int), .int .i64 (z : Int), .int .i64 (p : Int), .int .i64 (q : Int)]] w (.int .i64 ((s.operC z : Nat) : Int)) fun w' => Hid (Co W0 w' c b ((s.oper z).sum y (s.operV z)) l n) := by
 obtain ⟨X, hf, HF, HG, HX, HM⟩ := h.out.hif
 have HF0 := HF
 have hg := HG.out
 have hX := HX.out
 have hO := HM.out
 have v1 : s.operV z < 256 := by unfold Cs.operV; split; exact hf.m _; exact Cs.one_lt hf _
 clear h hf hg hX hO
 go_enter Tryz.func34, Tryz.ntmps34
 go_wp2_with (first | refine b6 ?_ | (refine cP ?_; clear HM; intro w' HM) | (refine a4 ?_; clear HM; intro w' g' HM) | (go_at_call 74; have hco := Za (l := _ :: l) HM HG HX; (with_reducible refine (Zad z hco).mono (Z2 ?_)); clear hco HM HF HG HX; intro w' X HF HG HX HM) | (go_at_call 75; have hco := Za (l := _ :: l) HM HG HX; (with_reducible refine (ZgA y _ hy v1 hco).mono (Z2 ?_)); clear hco HM HF HG HX; intro w' X HF HG HX HM))
 go_ret
 have hco := Co.ok (l := _ :: l) HM.out HG.out HX.out
 exact ⟨rfl, Zb (hco.drop.less (by omega))⟩
theorem ZhU (y z p q : Nat) (hT : Hid (Tabs W0)) (hy : y < 8) (hz : z < 8) (hp : y / 2 = p) (hq : y % 2 = q) (h : Hid (Co W0 w c b s l (n + 4))) :
  CX 34 #[.pointer (some ⟨c, 0, none⟩), .agg #[.int .i64 3, .int .i64 (y : Int), .int .i64 (z : Int), .int .i64 (p : Int), .int .i64 (q : Int)]] w (.int .i64 ((s.plain3C y z : Nat) : Int)) fun w' => Hid (Co W0 w' c b (s.plain3 y z) l n) := by
 obtain ⟨X, HF, HG, HX, HM⟩ := h.out.hid
 have HF0 := HF
 clear h
 go_enter Tryz.func34, Tryz.ntmps34
 go_wp2_with (first | refine b6 ?_ | (refine cP ?_; clear HM; intro w' HM) | (refine a4 ?_; clear HM; intro w' g' HM) | (go_at_call 76; have hco := Za (l := _ :: l) HM HG HX; (with_reducible refine (WQ hT y z p q hy hz hp hq hco).mono (Z2 ?_)); clear hco HM HF HG HX; intro w' X HF HG HX HM))
 go_ret
 have hco := Co.ok (l := _ :: l) HM.out HG.out HX.out
 exact ⟨rfl, Zb (hco.drop.less (by omega))⟩
theorem ZeR (hT : Hid (Tabs W0)) (x y z p q : Nat) (hx : x < 4) (hy : y < 8) (hz : z < 8) (hp : y / 2 = p) (hq : y % 2 = q) (h : Hid (Co W0 w c b s l (n + 4))) :
  CX 34 #[.pointer (some ⟨c, 0, none⟩), .agg #[.int .i64 (x : Int), .int .i64 (y : Int), .int .i64 (z : Int), .int .i64 (p : Int), .int .i64 (q : Int)]] w (.int .i64 ((s.plainC x y z : Nat) : Int)) fun w' => Hid (Co W0 w' c b (s.plain x y z) l n) := by
 by_cases h0 : x = 0
 ·have e2 : s.plain x y z = s.plain0 y z := if_pos (by omega)
  have e3 : s.plainC x y z = s.plain0C y z := if_pos (by omega)
  rw [e2, e3]; subst h0; rw [show ((0 : Nat) : Int) = 0 from rfl]; exact ZhR y z p q hT hy hz hp hq h
 by_cases h1 : x = 1
 ·have e2 : s.plain x y z = s.move y z := (if_neg (by omega)).trans (if_pos (by omega))
  have e3 : s.plainC x y z = s.moveC y z := (if_neg (by omega)).trans (if_pos (by omega))
  rw [e2, e3]; subst h1; rw [show ((1 : Nat) : Int) = 1 from rfl]; exact ZhS y z p q h
 by_cases h2 : x = 2
 ·have e2 : s.plain x y z = (s.oper z).sum y (s.operV z) := (if_neg (by omega)).trans ((if_neg (by omega)).trans (if_pos (by omega)))
  have e3 : s.plainC x y z = s.operC z := (if_neg (by omega)).trans ((if_neg (by omega)).trans (if_pos (by omega)))
  rw [e2, e3]; subst h2; rw [show ((2 : Nat) : Int) = 2 from rfl]; exact ZhT y z p q hy h
 by_cases h3 : x = 3
 ·have e2 : s.plain x y z = s.plain3 y z := (if_neg (by omega)).trans ((if_neg (by omega)).trans (if_neg (by omega)))
  have e3 : s.plainC x y z = s.plain3C y z := (if_neg (by omega)).trans ((if_neg (by omega)).trans (if_neg (by omega)))
  rw [e2, e3]; subst h3; rw [show ((3 : Nat) : Int) = 3 from rfl]; exact ZhU y z p q hT hy hz hp hq h
 exact absurd hx (by omega)
theorem k64 {P : Prop} (h : P := by
 go_enter Tryz.func214, Tryz.ntmps214
 go_wp2_with fail
 go_ret
 exact ⟨by rw [← e]; rfl, rfl⟩) : P := h
theorem ZeS (on : Bool) (r : Nat) (hr : Hid (cond on (4 : Nat) 0 = r)) (w : World) : CW 214 #[.bool on, .int .u8 4] w (.int .u8 (r : Int)) := by
 cases on
 ·have e : (0 : Int) = (r : Int) := by rw [← hr.out]; rfl
  exact k64
 ·have e : (4 : Int) = (r : Int) := by rw [← hr.out]; rfl
  exact k64
def Zaj (v : Nat) (p : Bool) (f : Nat) : Nat := Zq (nS v) (nZ v) (Zf 32 v) false (Zf 8 v) p false (Zf 1 f)
theorem Zcc (v : Nat) (p : Bool) (f : Nat) (hf : f < 256) : ((nShape v ||| cond p 4 0) ||| (f &&& 1)) = Zaj v p f := by
 rw [zO f hf]
 unfold nShape Zaj
 generalize nS v = a; generalize nZ v = b; generalize Zf 32 v = c; generalize Zf 8 v = d; generalize Zf 1 f = e
 revert a b c d e p
 decide +kernel
theorem KN (v : Nat) (p : Bool) (hv : v < 256) (h : Hid (Co W0 w c b s l (n))) :
  CX 177 #[.pointer (some ⟨c, 0, none⟩), .int .u8 (v : Int), .bool p] w (.tuple #[]) fun w' => Hid (Co W0 w' c b (s.setF (Zaj v p s.r.f)) l n) := by
 obtain ⟨X, hf, HF, HG, HX, HM⟩ := h.out.hif
 have HF0 := HF
 have hg := HG.out
 have hX := HX.out
 have hO := HM.out
 have f1 : s.r.f < 256 := hf.r.f
 obtain ⟨S, hS⟩ : ∃ x, Hid (nShape v = x) := ⟨_, rfl⟩
 obtain ⟨K, hK⟩ : ∃ x, Hid (cond p (4 : Nat) 0 = x) := ⟨_, rfl⟩
 obtain ⟨L, hL⟩ : ∃ x, x = s.r.f &&& 1 := ⟨_, rfl⟩
 obtain ⟨M, hM⟩ : ∃ x, x = S ||| K := ⟨_, rfl⟩
 obtain ⟨N, hN⟩ : ∃ x, Hid (Zaj v p s.r.f = x) := ⟨_, rfl⟩
 have S1 : S < 256 := by rw [← hS.out]; exact Zm _ _ _ _ _ _ _ _
 have K1 : K < 256 := by rw [← hK.out]; cases p <;> decide
 have L1 : L < 256 := by rw [hL]; exact vC f1
 have M1 : M < 256 := by rw [hM]; exact or8 S1 K1
 have N1 : N < 256 := by rw [← hN.out]; exact Zm _ _ _ _ _ _ _ _
 have e1 : bits .and .u8 (s.r.f : Int) 1 = (L : Int) := by rw [u8_and _ 1 (by omega) (by omega) (by omega) (by omega), Int.toNat_natCast, hL]; rfl
 have e2 : bits .or .u8 (S : Int) (K : Int) = (M : Int) := by rw [u8_or_nat S K S1 K1, hM]
 have e3 : bits .or .u8 (M : Int) (L : Int) = (N : Int) := by rw [u8_or_nat M L M1 L1, ← hN.out, ← Zcc v p s.r.f f1, hM, hL, hS.out, hK.out]
 rw [hN.out]
 clear hL hM
 clear h hf hg hX hO
 go_enter Tryz.func177, Tryz.ntmps177
 (refine Zk 13 HM (by kernel_rfl) (by kernel_rfl) (by kernel_rfl) ?_; simp only [List.take_succ_cons, List.take_zero, List.drop_succ_cons, List.drop_zero]; (try simp only [Act.put, Ze, Zc, Zd]); repeat ((fail_if_success (with_reducible refine wpQuiet_nil ?_)); first | go_big_quiet_skip | (go_big_quiet_want; first | (refine a15 ?_; go_big_quiet_op; go_big_quiet_on) | (refine a16 ?_; go_big_quiet_op; go_big_quiet_on) | ((with_reducible apply Zh); exact fun w => rfl; (focus (go_simp; all_goals with_reducible rfl)); (intro wq HQ; first | (with_reducible exact (J0 v S hv hS _).mono fun _ _ ⟨he, hw⟩ => ⟨he, hw ▸ Below.refl _ _⟩) | (with_reducible exact (ZeS p K hK _).mono fun _ _ ⟨he, hw⟩ => ⟨he, hw ▸ Below.refl _ _⟩)); go_big_quiet_op; go_big_quiet_on) | (go_big_quiet_op; go_big_quiet_on) | (go_big_quiet_op; refine ⟨_, fun _ _ => rfl, ?_⟩; go_big_quiet_on))))
 refine wpQuiet_nil ?_
 intro w' HM'
 clear HM; have HM := HM'; clear HM'
 go_wp2_with (first | refine cG ?_ | (refine cP ?_; clear HM; intro w' HM))
 go_end0
 have hco := Co.ok HM.out HG.out HX.out
 exact ⟨rfl, Zb hco⟩
theorem yG (v : Nat) (hv : v < 256) (h : Hid (Co W0 w c b s l (n))) :
  CX 183 #[.pointer (some ⟨c, 0, none⟩), .int .u8 (v : Int)] w (.tuple #[]) fun w' => Hid (Co W0 w' c b (s.bring v) l n) := by
 obtain ⟨X, HF, HG, HX, HM⟩ := h.out.hid
 have HF0 := HF
 clear h
 go_enter Tryz.func183, Tryz.ntmps183
 go_wp2_with (first | refine cG ?_ | (refine cP ?_; clear HM; intro w' HM) | (go_at_call 177; have hco := Za HM HG HX; (with_reducible refine (KN _ _ hv hco).mono (coK ?_)); clear hco HM HF HG HX; intro w' X HF HG HX HM))
 go_end0
 have hco := Co.ok HM.out HG.out HX.out
 exact ⟨rfl, Zb hco⟩
theorem ZeT (i : Nat) (h : Hid (Co W0 w c b s l (n + 1))) :
  CX 119 #[.pointer (some ⟨c, 0, none⟩), .int .i64 (i : Int)] w (.int .i64 12) fun w' => Hid (Co W0 w' c b (s.inOne i) l n) := by
 obtain ⟨X, hf, HF, HG, HX, HM⟩ := h.out.hif
 have HF0 := HF
 have hg := HG.out
 have hX := HX.out
 have hO := HM.out
 obtain ⟨p, hp⟩ : ∃ x, Hid (s.pair 0 = x) := ⟨_, rfl⟩
 have p1 : p < 65536 := by rw [← hp.out]; exact Cs.pair_lt hf _
 obtain ⟨v, hv⟩ : ∃ x, Hid (s.ipV p 9 = x) := ⟨_, rfl⟩
 have v1 : v < 256 := by rw [← hv.out]; exact Nat.mod_lt _ (by decide)
 have c1 : Zaj v (Jt v) s.r.f < 256 := Zm _ _ _ _ _ _ _ _
 have E : s.inOne i = (((s.ip p 9).setF (Zaj v (Jt v) s.r.f)).setWZ (up1 p)).setOne i v := by unfold Cs.inOne; rw [hp.out, hv.out]; rfl
 rw [E]
 have e1 : IntKind.u16.wrap ((p : Int) + 1) = ((up1 p : Nat) : Int) := by unfold up1; show ((p : Int) + 1) % 65536 = _; omega
 clear E h hf hg hX hO
 have hmIn : ∀ w : World, (method 296 29 (.pointer (some ⟨b, 0, none⟩)) "In").run Tryz.prog w = .ok (245, .pointer (some ⟨b, 0, none⟩)) w := fun _ => by kernel_rfl
 go_enter Tryz.func119, Tryz.ntmps119
 go_wp2_with (first | refine cG ?_ | (refine cP ?_; clear HM; intro w' HM) | (go_at_call 67; (with_reducible refine (ZB .z HM HF.out _).mono ?_); rintro e w' ⟨rfl, hb⟩; rw [hp.out]; replace HM := Zb (HM.out.call hb); clear hb) | (go_at_call 245; have hco := Za HM HG HX; (with_reducible refine (ZkK p p1 hco).mono (coK ?_)); clear hco HM HF HG HX; intro w' X HF HG HX HM; rw [hv.out]) | (go_at_call 178; (with_reducible refine (Wl v _ v1 (Zb rfl) _).mono ?_); rintro e w' ⟨rfl, rfl⟩) | (go_at_call 177; have hco := Za HM HG HX; (with_reducible refine (KN v _ v1 hco).mono (coK ?_)); clear hco HM HF HG HX; intro w' X HF HG HX HM) | (go_at_call 70; have hco := Za HM HG HX; (with_reducible refine (YS _ v v1 hco).mono (coK ?_)); clear hco HM HF HG HX; intro w' X HF HG HX HM))
 go_ret
 have hco := Co.ok HM.out HG.out HX.out
 exact ⟨rfl, Zb hco⟩
theorem Zcd (i : Nat) (h : Hid (Co W0 w c b s l (n + 1))) :
  CX 120 #[.pointer (some ⟨c, 0, none⟩), .int .i64 (i : Int)] w (.int .i64 12) fun w' => Hid (Co W0 w' c b (s.outOne i) l n) := by
 obtain ⟨X, hf, HF, HG, HX, HM⟩ := h.out.hif
 have HF0 := HF
 have hg := HG.out
 have hX := HX.out
 have hO := HM.out
 obtain ⟨p, hp⟩ : ∃ x, Hid (s.pair 0 = x) := ⟨_, rfl⟩
 have p1 : p < 65536 := by rw [← hp.out]; exact Cs.pair_lt hf _
 have v1 : s.one i < 256 := Cs.one_lt hf _
 have E : s.outOne i = (s.op p (s.one i) 9).setWZ (up1 p) := by unfold Cs.outOne; rw [hp.out]
 rw [E]
 have e1 : IntKind.u16.wrap ((p : Int) + 1) = ((up1 p : Nat) : Int) := by unfold up1; show ((p : Int) + 1) % 65536 = _; omega
 clear E h hf hg hX hO
 have hmOut : ∀ w : World, (method 296 29 (.pointer (some ⟨b, 0, none⟩)) "Out").run Tryz.prog w = .ok (246, .pointer (some ⟨b, 0, none⟩)) w := fun _ => by kernel_rfl
 go_enter Tryz.func120, Tryz.ntmps120
 go_upto_region 2 with (first | refine cG ?_ | (refine cP ?_; clear HM; intro w' HM) | (go_at_call 67; (with_reducible refine (ZB .z HM HF.out _).mono ?_); rintro e w' ⟨rfl, hb⟩; rw [hp.out]; replace HM := Zb (HM.out.call hb); clear hb))
 (refine Zk 10 HM (by kernel_rfl) (by kernel_rfl) (by kernel_rfl) ?_; simp only [List.take_succ_cons, List.take_zero, List.drop_succ_cons, List.drop_zero]; (try simp only [Act.put, Ze, Zc, Zd]); repeat ((fail_if_success (with_reducible refine wpQuiet_nil ?_)); first | go_big_quiet_skip | (go_big_quiet_want; first | (refine a15 ?_; go_big_quiet_op; go_big_quiet_on) | (refine a16 ?_; go_big_quiet_op; go_big_quiet_on) | ((with_reducible apply Zh); exact fun w => rfl; (focus (go_simp; all_goals with_reducible rfl)); (intro wq HQ; first | (with_reducible exact Vq .z HQ HF.out _)); go_big_quiet_op; go_big_quiet_on) | (go_big_quiet_op; go_big_quiet_on) | (go_big_quiet_op; refine ⟨_, fun _ _ => rfl, ?_⟩; go_big_quiet_on))))
 refine wpQuiet_nil ?_
 intro w' HM'
 clear HM; have HM := HM'; clear HM'
 go_wp2_with (first | refine cG ?_ | (refine cP ?_; clear HM; intro w' HM) | (go_at_call 246; have hco := Za HM HG HX; (with_reducible refine (ZkJ _ _ p1 v1 hco).mono (coK ?_)); clear hco HM HF HG HX; intro w' X HF HG HX HM))
 go_ret
 have hco := Co.ok HM.out HG.out HX.out
 exact ⟨rfl, Zb hco⟩
theorem jj (x y z p : Nat) (h : Hid (Co W0 w c b s l (n))) :
  CX 121 #[.pointer (some ⟨c, 0, none⟩), .agg #[.int .i64 (x : Int), .int .i64 (y : Int), .int .i64 (z : Int), .int .i64 (p : Int), .int .i64 0]] w (.int .i64 15) fun w' => Hid (Co W0 w' c b (s.carryPair false (p : Int)) l n) := by
 obtain ⟨X, hf, HF, HG, HX, HM⟩ := h.out.hif
 have HF0 := HF
 have hg := HG.out
 have hX := HX.out
 have hO := HM.out
 have p1 : s.pair 2 < 65536 := Cs.pair_lt hf _
 have p2 : s.pair (p : Int) < 65536 := Cs.pair_lt hf _
 have f1 : s.r.f < 256 := hf.r.f
 have h3 : Vl (s.pair 2) (s.pair (p : Int)) (s.r.f % 2) < 256 := ya _ _ _
 have h4 : Jg (s.pair 2) (s.pair (p : Int)) (s.r.f % 2) < 65536 := Us _ _ _
 have e1 : IntKind.u16.wrap ((s.pair 2 : Int) + 1) = ((up1 (s.pair 2) : Nat) : Int) := by generalize s.pair 2 = k; unfold up1; show ((k : Int) + 1) % 65536 = _; omega
 clear h hf hg hX hO
 go_enter Tryz.func121, Tryz.ntmps121
 go_upto_region 5 with (first | refine b6 ?_ | (refine cP ?_; clear HM; intro w' HM) | (refine a4 ?_; clear HM; intro w' g' HM) | (go_at_call 67; (with_reducible refine (ZB .z HM HF.out _).mono ?_); rintro e w' ⟨rfl, hb⟩; replace HM := Zb (HM.out.call hb); clear hb))
 (refine Zo HM (by kernel_rfl) (by kernel_rfl) ?_; (try simp only [Act.put, Ze, Zc, Zd]); repeat ((fail_if_success (with_reducible refine wpQuiet_nil ?_)); first | go_big_quiet_skip | (go_big_quiet_want; first | (refine a15 ?_; go_big_quiet_op; go_big_quiet_on) | (refine a16 ?_; go_big_quiet_op; go_big_quiet_on) | (refine a26 ?_; go_big_quiet_op; go_big_quiet_on) | (refine a24 ?_; go_big_quiet_op; go_big_quiet_on) | ((with_reducible apply Zh); exact fun w => rfl; (focus (go_simp; all_goals with_reducible rfl)); (intro wq HQ; first | (with_reducible exact ZB .z HQ HF.out _) | (with_reducible exact (Zks _ _ _ _ _ _ p1 p2 f1 (Zb rfl) (Zb rfl) (Zb rfl) _).mono fun _ _ ⟨he, hw⟩ => ⟨he, hw ▸ Below.refl _ _⟩)); go_big_quiet_op; go_big_quiet_on) | (go_big_quiet_op; go_big_quiet_on) | (go_big_quiet_op; refine ⟨_, fun _ _ => rfl, ?_⟩; go_big_quiet_on))))
 refine wpQuiet_nil ?_
 intro w' HM'
 clear HM; have HM := HM'; clear HM'
 go_wp2_with (first | refine b6 ?_ | (refine cP ?_; clear HM; intro w' HM) | (refine a4 ?_; clear HM; intro w' g' HM) | (go_at_call 139; have hco := Za (l := _ :: l) HM HG HX; (with_reducible refine (ZO 2 _ h4 hco).mono (Z2 ?_)); clear hco HM HF HG HX; intro w' X HF HG HX HM))
 go_ret
 have hco := Co.ok (l := _ :: l) HM.out HG.out HX.out
 exact ⟨rfl, Zb hco.drop⟩
theorem jk (x y z p : Nat) (h : Hid (Co W0 w c b s l (n))) :
  CX 121 #[.pointer (some ⟨c, 0, none⟩), .agg #[.int .i64 (x : Int), .int .i64 (y : Int), .int .i64 (z : Int), .int .i64 (p : Int), .int .i64 1]] w (.int .i64 15) fun w' => Hid (Co W0 w' c b (s.carryPair true (p : Int)) l n) := by
 obtain ⟨X, hf, HF, HG, HX, HM⟩ := h.out.hif
 have HF0 := HF
 have hg := HG.out
 have hX := HX.out
 have hO := HM.out
 have p1 : s.pair 2 < 65536 := Cs.pair_lt hf _
 have p2 : s.pair (p : Int) < 65536 := Cs.pair_lt hf _
 have f1 : s.r.f < 256 := hf.r.f
 have h3 : JX (s.pair 2) (s.pair (p : Int)) (s.r.f % 2) < 256 := Ut _ _ _
 have h4 : Yu (s.pair 2) (s.pair (p : Int)) (s.r.f % 2) < 65536 := Ys _ _ _
 have e1 : IntKind.u16.wrap ((s.pair 2 : Int) + 1) = ((up1 (s.pair 2) : Nat) : Int) := by generalize s.pair 2 = k; unfold up1; show ((k : Int) + 1) % 65536 = _; omega
 clear h hf hg hX hO
 go_enter Tryz.func121, Tryz.ntmps121
 go_upto_region 5 with (first | refine b6 ?_ | (refine cP ?_; clear HM; intro w' HM) | (refine a4 ?_; clear HM; intro w' g' HM) | (go_at_call 67; (with_reducible refine (ZB .z HM HF.out _).mono ?_); rintro e w' ⟨rfl, hb⟩; replace HM := Zb (HM.out.call hb); clear hb))
 (refine Zo HM (by kernel_rfl) (by kernel_rfl) ?_; (try simp only [Act.put, Ze, Zc, Zd]); repeat ((fail_if_success (with_reducible refine wpQuiet_nil ?_)); first | go_big_quiet_skip | (go_big_quiet_want; first | (refine a15 ?_; go_big_quiet_op; go_big_quiet_on) | (refine a16 ?_; go_big_quiet_op; go_big_quiet_on) | (refine a26 ?_; go_big_quiet_op; go_big_quiet_on) | (refine a24 ?_; go_big_quiet_op; go_big_quiet_on) | ((with_reducible apply Zh); exact fun w => rfl; (focus (go_simp; all_goals with_reducible rfl)); (intro wq HQ; first | (with_reducible exact ZB .z HQ HF.out _) | (with_reducible exact (Zgs _ _ _ _ _ _ p1 p2 f1 (Zb rfl) (Zb rfl) (Zb rfl) _).mono fun _ _ ⟨he, hw⟩ => ⟨he, hw ▸ Below.refl _ _⟩)); go_big_quiet_op; go_big_quiet_on) | (go_big_quiet_op; go_big_quiet_on) | (go_big_quiet_op; refine ⟨_, fun _ _ => rfl, ?_⟩; go_big_quiet_on))))
 refine wpQuiet_nil ?_
 intro w' HM'
 clear HM; have HM := HM'; clear HM'
 go_wp2_with (first | refine b6 ?_ | (refine cP ?_; clear HM; intro w' HM) | (refine a4 ?_; clear HM; intro w' g' HM) | (go_at_call 139; have hco := Za (l := _ :: l) HM HG HX; (with_reducible refine (ZO 2 _ h4 hco).mono (Z2 ?_)); clear hco HM HF HG HX; intro w' X HF HG HX HM))
 go_ret
 have hco := Co.ok (l := _ :: l) HM.out HG.out HX.out
 exact ⟨rfl, Zb hco.drop⟩
theorem J5 (i : Int) (k : Nat) (hk : k < 256) (h : Hid (Co W0 w c b s l (n))) :
  CX 220 #[.pointer (some ⟨c, 0, none⟩), .int .i64 i, .int .u8 (k : Int)] w (.tuple #[]) fun w' => Hid (Co W0 w' c b (s.shift i k) l n) := by
 obtain ⟨X, hf, HF, HG, HX, HM⟩ := h.out.hif
 have HF0 := HF
 have hg := HG.out
 have hX := HX.out
 have hO := HM.out
 have p1 : s.pair i < 65536 := Cs.pair_lt hf _
 clear h hf hg hX hO
 go_enter Tryz.func220, Tryz.ntmps220
 go_wp2_with (first | refine cG ?_ | (refine cP ?_; clear HM; intro w' HM) | (go_at_call 67; (with_reducible refine (ZB .z HM HF.out _).mono ?_); rintro e w' ⟨rfl, hb⟩; replace HM := Zb (HM.out.call hb); clear hb) | (go_at_call 127; (with_reducible refine (Y8 _ _ _ p1 hk (Zb rfl) _).mono ?_); rintro e w' ⟨rfl, rfl⟩) | (go_at_call 139; have hco := Za HM HG HX; (with_reducible refine (ZO _ _ (Zt _ _) hco).mono (coK ?_)); clear hco HM HF HG HX; intro w' X HF HG HX HM))
 go_end0
 have hco := Co.ok HM.out HG.out HX.out
 exact ⟨rfl, Zb hco⟩
theorem Zce (h : Hid (Co W0 w c b s l (n))) :
  CX 221 #[.pointer (some ⟨c, 0, none⟩)] w (.int .u16 (s.lessV : Int)) fun w' => Hid (Co W0 w' c b (s.less) l n) := by
 obtain ⟨X, hf, HF, HG, HX, HM⟩ := h.out.hif
 have HF0 := HF
 have hg := HG.out
 have hX := HX.out
 have hO := HM.out
 have p1 : dn1 (s.pair 0) < 65536 := ZP _
 have e1 : IntKind.u16.wrap ((s.pair 0 : Int) - 1) = ((dn1 (s.pair 0) : Nat) : Int) := by generalize s.pair 0 = k; unfold dn1; show ((k : Int) - 1) % 65536 = _; omega
 clear h hf hg hX hO
 go_enter Tryz.func221, Tryz.ntmps221
 go_wp2_with (first | refine cG ?_ | (refine cP ?_; clear HM; intro w' HM) | (go_at_call 67; (with_reducible refine (ZB .z HM HF.out _).mono ?_); rintro e w' ⟨rfl, hb⟩; replace HM := Zb (HM.out.call hb); clear hb) | (go_at_call 139; have hco := Za HM HG HX; (with_reducible refine (ZO _ _ p1 hco).mono (coK ?_)); clear hco HM HF HG HX; intro w' X HF HG HX HM))
 go_ret
 have hco := Co.ok HM.out HG.out HX.out
 exact ⟨rfl, Zb hco⟩
theorem jl (h : Hid (Co W0 w c b s l (n + 2))) :
  CX 184 #[.pointer (some ⟨c, 0, none⟩), .bool true] w (.int .i64 18) fun w' => Hid (Co W0 w' c b (s.digits true) l n) := by
 obtain ⟨X, hf, HF, HG, HX, HM⟩ := h.out.hif
 have HF0 := HF
 have hg := HG.out
 have hX := HX.out
 have hO := HM.out
 obtain ⟨p, hp⟩ : ∃ x, Hid (s.pair 2 = x) := ⟨_, rfl⟩
 have p1 : p < 65536 := by rw [← hp.out]; exact Cs.pair_lt hf _
 obtain ⟨v, hv⟩ : ∃ x, Hid (s.m p = x) := ⟨_, rfl⟩
 have v1 : v < 256 := by rw [← hv.out]; exact hf.m _
 obtain ⟨a, ha⟩ : ∃ x, Hid (s.r.a = x) := ⟨_, rfl⟩
 have a1 : a < 256 := by rw [← ha.out]; exact hf.r.a
 obtain ⟨f, hf'⟩ : ∃ x, Hid (s.r.f = x) := ⟨_, rfl⟩
 have f1 : f < 256 := by rw [← hf'.out]; exact hf.r.f
 obtain ⟨A, hA⟩ : ∃ x, Hid (Uv true a v = x) := ⟨_, rfl⟩
 obtain ⟨M, hM⟩ : ∃ x, Hid (Wf true a v = x) := ⟨_, rfl⟩
 obtain ⟨G, hG⟩ : ∃ x, Hid (Wg true a v f = x) := ⟨_, rfl⟩
 have A1 : A < 256 := by rw [← hA.out]; exact Jv _ _ _ a1 v1
 have M1 : M < 256 := by rw [← hM.out]; exact K5 _ _ _ a1 v1
 have G1 : G < 256 := by rw [← hG.out]; exact Zm _ _ _ _ _ _ _ _
 have E : s.digits true = ((((s.rd p).wr p M).setA A).setF G).setWZ (up1 p) := by unfold Cs.digits; rw [hp.out, hv.out, ha.out, hf'.out, hA.out, hM.out, hG.out]
 rw [E]
 have e1 : IntKind.u16.wrap ((p : Int) + 1) = ((up1 p : Nat) : Int) := by unfold up1; show ((p : Int) + 1) % 65536 = _; omega
 clear E h hf hg hX hO
 have hmRead : ∀ w : World, (method 296 29 (.pointer (some ⟨b, 0, none⟩)) "Read").run Tryz.prog w = .ok (247, .pointer (some ⟨b, 0, none⟩)) w := fun _ => by kernel_rfl
 have hmWrite : ∀ w : World, (method 296 29 (.pointer (some ⟨b, 0, none⟩)) "Write").run Tryz.prog w = .ok (248, .pointer (some ⟨b, 0, none⟩)) w := fun _ => by kernel_rfl
 go_enter Tryz.func184, Tryz.ntmps184
 go_upto_region 2 with (first | refine cG ?_ | (refine cP ?_; clear HM; intro w' HM) | (go_at_call 67; (with_reducible refine (ZB .z HM HF.out _).mono ?_); rintro e w' ⟨rfl, hb⟩; rw [hp.out]; replace HM := Zb (HM.out.call hb); clear hb))
 have HM' := Zb HM.out.drew
 clear HM; have HM := HM'; clear HM'
 have c29 := HM.out.cells_at .z 29 _ rfl
 have c0 : w'.drew.cell? ⟨c, 0, none⟩ = some (.int .u8 (a : Int)) := (HM.out.cells_at .z 0 _ rfl).trans (congrArg (fun x : Nat => some (Value.int .u8 (x : Int))) ha.out)
 have c1 : w'.drew.cell? ⟨c, 1, none⟩ = some (.int .u8 (f : Int)) := (HM.out.cells_at .z 1 _ rfl).trans (congrArg (fun x : Nat => some (Value.int .u8 (x : Int))) hf'.out)
 go_region_held3 (fun w' => w'.cell? ⟨c, 29, none⟩ = some (.iface 29 (.pointer (some ⟨b, 0, none⟩))) ∧ w'.cell? ⟨c, 0, none⟩ = some (.int .u8 (a : Int)) ∧ w'.cell? ⟨c, 1, none⟩ = some (.int .u8 (f : Int))) (first | assumption | (simp only [*]; trivial) | simp [*]) (first | (go_at_call 247; have hco := Za HM HG HX; (with_reducible refine (YZ p p1 hco).mono (coK ?_)); clear hco HM HF HG HX; intro w' X HF HG HX HM; rw [hv.out]; have c29 := HM.out.cells_at .z 29 _ rfl; have c0 : w'.cell? ⟨c, 0, none⟩ = some (.int .u8 (a : Int)) := (HM.out.cells_at .z 0 _ rfl).trans (congrArg (fun x : Nat => some (Value.int .u8 (x : Int))) ha.out); have c1 : w'.cell? ⟨c, 1, none⟩ = some (.int .u8 (f : Int)) := (HM.out.cells_at .z 1 _ rfl).trans (congrArg (fun x : Nat => some (Value.int .u8 (x : Int))) hf'.out)) | (go_at_call 219; (with_reducible refine (Wn true a v f A M G a1 v1 f1 hA hM hG _).mono ?_); rintro e w' ⟨rfl, rfl⟩))
 all_goals go_wp2_with (first | refine cG ?_ | (refine cP ?_; clear HM; intro w' HM) | (go_at_call 248; have hco := Za HM HG HX; (with_reducible refine (Y9 _ _ p1 M1 hco).mono (coK ?_)); clear hco HM HF HG HX; intro w' X HF HG HX HM))
 all_goals go_ret
 all_goals have hco := Co.ok HM.out HG.out HX.out
 all_goals exact ⟨rfl, Zb (hco.less (by omega))⟩
theorem WR (h : Hid (Co W0 w c b s l (n + 2))) :
  CX 184 #[.pointer (some ⟨c, 0, none⟩), .bool false] w (.int .i64 18) fun w' => Hid (Co W0 w' c b (s.digits false) l n) := by
 obtain ⟨X, hf, HF, HG, HX, HM⟩ := h.out.hif
 have HF0 := HF
 have hg := HG.out
 have hX := HX.out
 have hO := HM.out
 obtain ⟨p, hp⟩ : ∃ x, Hid (s.pair 2 = x) := ⟨_, rfl⟩
 have p1 : p < 65536 := by rw [← hp.out]; exact Cs.pair_lt hf _
 obtain ⟨v, hv⟩ : ∃ x, Hid (s.m p = x) := ⟨_, rfl⟩
 have v1 : v < 256 := by rw [← hv.out]; exact hf.m _
 obtain ⟨a, ha⟩ : ∃ x, Hid (s.r.a = x) := ⟨_, rfl⟩
 have a1 : a < 256 := by rw [← ha.out]; exact hf.r.a
 obtain ⟨f, hf'⟩ : ∃ x, Hid (s.r.f = x) := ⟨_, rfl⟩
 have f1 : f < 256 := by rw [← hf'.out]; exact hf.r.f
 obtain ⟨A, hA⟩ : ∃ x, Hid (Uv false a v = x) := ⟨_, rfl⟩
 obtain ⟨M, hM⟩ : ∃ x, Hid (Wf false a v = x) := ⟨_, rfl⟩
 obtain ⟨G, hG⟩ : ∃ x, Hid (Wg false a v f = x) := ⟨_, rfl⟩
 have A1 : A < 256 := by rw [← hA.out]; exact Jv _ _ _ a1 v1
 have M1 : M < 256 := by rw [← hM.out]; exact K5 _ _ _ a1 v1
 have G1 : G < 256 := by rw [← hG.out]; exact Zm _ _ _ _ _ _ _ _
 have E : s.digits false = ((((s.rd p).wr p M).setA A).setF G).setWZ (up1 p) := by unfold Cs.digits; rw [hp.out, hv.out, ha.out, hf'.out, hA.out, hM.out, hG.out]
 rw [E]
 have e1 : IntKind.u16.wrap ((p : Int) + 1) = ((up1 p : Nat) : Int) := by unfold up1; show ((p : Int) + 1) % 65536 = _; omega
 clear E h hf hg hX hO
 have hmRead : ∀ w : World, (method 296 29 (.pointer (some ⟨b, 0, none⟩)) "Read").run Tryz.prog w = .ok (247, .pointer (some ⟨b, 0, none⟩)) w := fun _ => by kernel_rfl
 have hmWrite : ∀ w : World, (method 296 29 (.pointer (some ⟨b, 0, none⟩)) "Write").run Tryz.prog w = .ok (248, .pointer (some ⟨b, 0, none⟩)) w := fun _ => by kernel_rfl
 go_enter Tryz.func184, Tryz.ntmps184
 go_upto_region 2 with (first | refine cG ?_ | (refine cP ?_; clear HM; intro w' HM) | (go_at_call 67; (with_reducible refine (ZB .z HM HF.out _).mono ?_); rintro e w' ⟨rfl, hb⟩; rw [hp.out]; replace HM := Zb (HM.out.call hb); clear hb))
 have HM' := Zb HM.out.drew
 clear HM; have HM := HM'; clear HM'
 have c29 := HM.out.cells_at .z 29 _ rfl
 have c0 : w'.drew.cell? ⟨c, 0, none⟩ = some (.int .u8 (a : Int)) := (HM.out.cells_at .z 0 _ rfl).trans (congrArg (fun x : Nat => some (Value.int .u8 (x : Int))) ha.out)
 have c1 : w'.drew.cell? ⟨c, 1, none⟩ = some (.int .u8 (f : Int)) := (HM.out.cells_at .z 1 _ rfl).trans (congrArg (fun x : Nat => some (Value.int .u8 (x : Int))) hf'.out)
 go_region_held3 (fun w' => w'.cell? ⟨c, 29, none⟩ = some (.iface 29 (.pointer (some ⟨b, 0, none⟩))) ∧ w'.cell? ⟨c, 0, none⟩ = some (.int .u8 (a : Int)) ∧ w'.cell? ⟨c, 1, none⟩ = some (.int .u8 (f : Int))) (first | assumption | (simp only [*]; trivial) | simp [*]) (first | (go_at_call 247; have hco := Za HM HG HX; (with_reducible refine (YZ p p1 hco).mono (coK ?_)); clear hco HM HF HG HX; intro w' X HF HG HX HM; rw [hv.out]; have c29 := HM.out.cells_at .z 29 _ rfl; have c0 : w'.cell? ⟨c, 0, none⟩ = some (.int .u8 (a : Int)) := (HM.out.cells_at .z 0 _ rfl).trans (congrArg (fun x : Nat => some (Value.int .u8 (x : Int))) ha.out); have c1 : w'.cell? ⟨c, 1, none⟩ = some (.int .u8 (f : Int)) := (HM.out.cells_at .z 1 _ rfl).trans (congrArg (fun x : Nat => some (Value.int .u8 (x : Int))) hf'.out)) | (go_at_call 219; (with_reducible refine (Wn false a v f A M G a1 v1 f1 hA hM hG _).mono ?_); rintro e w' ⟨rfl, rfl⟩))
 all_goals go_wp2_with (first | refine cG ?_ | (refine cP ?_; clear HM; intro w' HM) | (go_at_call 248; have hco := Za HM HG HX; (with_reducible refine (Y9 _ _ p1 M1 hco).mono (coK ?_)); clear hco HM HF HG HX; intro w' X HF HG HX HM))
 all_goals go_ret
 all_goals have hco := Co.ok HM.out HG.out HX.out
 all_goals exact ⟨rfl, Zb (hco.less (by omega))⟩
end
end Go.Proofs.YtgdeeiimkhjfiaaGreatDoor
