import Derived.Test.YtgdeeiimkhjfiaaGreatDoorV17
import Derived.Laws.ResultCell
set_option maxRecDepth 100000
set_option maxHeartbeats 6400000
namespace Go.Proofs.YtgdeeiimkhjfiaaGreatDoor
open Go.RowKit
section
variable {W0 w : World} {x b tq n c : Nat} {s : Cs} {ix : Bool} {pg : Int} {l : Zj}
theorem Zcy (hh : s.r.ht = true) (h : Hid (Co W0 w c b s l (n + 6))) :
  CX 15 #[.pointer (some ⟨c, 0, none⟩)] w (.int .i64 4) fun w' => Hid (Co W0 w' c b (s.tick) l n) := by
 obtain ⟨X, HF, HG, HX, HM⟩ := h.out.hid
 have HF0 := HF
 clear h
 go_enter Tryz.func15, Tryz.ntmps15
 go_wp2_with (first | refine cG ?_ | (refine cP ?_; clear HM; intro w' HM) | (exact absurd (hh.symm.trans (by assumption : s.r.ht = false)) Bool.noConfusion) | (go_at_call 29; have hco := Za HM HG HX; (with_reducible refine (UC hco).mono (coK ?_)); clear hco HM HF HG HX; intro w' X HF HG HX HM))
 go_ret
 have hco := Co.ok HM.out HG.out HX.out
 exact ⟨rfl, Zb (hco.less (by omega))⟩
theorem WW (hh : s.r.ht = false) (o : Nat) (ho : Hid (s.begun.nextV = o)) (hop : o = 221) (h : Hid (Co W0 w c b s l (n + 6))) :
  CX 15 #[.pointer (some ⟨c, 0, none⟩)] w (.int .i64 4) fun w' => Hid (Co W0 w' c b (((((s.setDL false).ahead s.r.px).setPX 0)).fetch.setPX o) l n) := by
 have HO : Hid ((((s.setDL false).ahead s.r.px).setPX 0).nextV = o) := ho
 obtain ⟨X, hf, HF, HG, HX, HM⟩ := h.out.hif
 have HF0 := HF
 have hg := HG.out
 have hX := HX.out
 have hO := HM.out
 have ob : o < 256 := by rw [← ho.out]; exact hf.m _
 have xp : s.r.px < 256 := hf.r.px
 have x0 : 0 < 256 := by decide
 have o221 : ((o : Int) == 221) = true := by rw [hop]; rfl
 have o253 : ((o : Int) == 253) = false := by rw [hop]; rfl
 have o237 : ((o : Int) == 237) = false := by rw [hop]; rfl
 have o203 : ((o : Int) == 203) = false := by rw [hop]; rfl
 clear h hf hg hX hO
 go_enter Tryz.func15, Tryz.ntmps15
 go_wp2_with (first | refine cG ?_ | (refine cP ?_; clear HM; intro w' HM) | (exact absurd (hh.symm.trans (by assumption : s.r.ht = true)) Bool.noConfusion) | (go_at_call 30; have hco := Za HM HG HX; (with_reducible refine (YO hco).mono (coK ?_)); clear hco HM HF HG HX; intro w' X HF HG HX HM; rw [HO.out]))
 go_ret
 have hco := Co.ok HM.out HG.out HX.out
 exact ⟨rfl, Zb (hco.less (by omega))⟩
theorem WX (hh : s.r.ht = false) (o : Nat) (ho : Hid (s.begun.nextV = o)) (hop : o = 253) (h : Hid (Co W0 w c b s l (n + 6))) :
  CX 15 #[.pointer (some ⟨c, 0, none⟩)] w (.int .i64 4) fun w' => Hid (Co W0 w' c b (((((s.setDL false).ahead s.r.px).setPX 0)).fetch.setPX o) l n) := by
 have HO : Hid ((((s.setDL false).ahead s.r.px).setPX 0).nextV = o) := ho
 obtain ⟨X, hf, HF, HG, HX, HM⟩ := h.out.hif
 have HF0 := HF
 have hg := HG.out
 have hX := HX.out
 have hO := HM.out
 have ob : o < 256 := by rw [← ho.out]; exact hf.m _
 have xp : s.r.px < 256 := hf.r.px
 have x0 : 0 < 256 := by decide
 have o221 : ((o : Int) == 221) = false := by rw [hop]; rfl
 have o253 : ((o : Int) == 253) = true := by rw [hop]; rfl
 have o237 : ((o : Int) == 237) = false := by rw [hop]; rfl
 have o203 : ((o : Int) == 203) = false := by rw [hop]; rfl
 clear h hf hg hX hO
 go_enter Tryz.func15, Tryz.ntmps15
 go_wp2_with (first | refine cG ?_ | (refine cP ?_; clear HM; intro w' HM) | (exact absurd (hh.symm.trans (by assumption : s.r.ht = true)) Bool.noConfusion) | (go_at_call 30; have hco := Za HM HG HX; (with_reducible refine (YO hco).mono (coK ?_)); clear hco HM HF HG HX; intro w' X HF HG HX HM; rw [HO.out]))
 go_ret
 have hco := Co.ok HM.out HG.out HX.out
 exact ⟨rfl, Zb (hco.less (by omega))⟩
theorem Zh0 (hh : s.r.ht = false) (o : Nat) (ho : Hid (s.begun.nextV = o)) (hop : o = 203) (h : Hid (Co W0 w c b s l (n + 6))) :
  CX 15 #[.pointer (some ⟨c, 0, none⟩)] w (.int .i64 ((((((s.setDL false).ahead s.r.px).setPX 0)).fetch.onBitsC : Nat) : Int)) fun w' => Hid (Co W0 w' c b (((((s.setDL false).ahead s.r.px).setPX 0)).fetch.onBits) l n) := by
 have HO : Hid ((((s.setDL false).ahead s.r.px).setPX 0).nextV = o) := ho
 obtain ⟨X, hf, HF, HG, HX, HM⟩ := h.out.hif
 have HF0 := HF
 have hg := HG.out
 have hX := HX.out
 have hO := HM.out
 have ob : o < 256 := by rw [← ho.out]; exact hf.m _
 have xp : s.r.px < 256 := hf.r.px
 have x0 : 0 < 256 := by decide
 have o221 : ((o : Int) == 221) = false := by rw [hop]; rfl
 have o253 : ((o : Int) == 253) = false := by rw [hop]; rfl
 have o237 : ((o : Int) == 237) = false := by rw [hop]; rfl
 have o203 : ((o : Int) == 203) = true := by rw [hop]; rfl
 clear h hf hg hX hO
 go_enter Tryz.func15, Tryz.ntmps15
 go_wp2_with (first | refine cG ?_ | (refine cP ?_; clear HM; intro w' HM) | (exact absurd (hh.symm.trans (by assumption : s.r.ht = true)) Bool.noConfusion) | (go_at_call 30; have hco := Za HM HG HX; (with_reducible refine (YO hco).mono (coK ?_)); clear hco HM HF HG HX; intro w' X HF HG HX HM; rw [HO.out]) | (go_at_call 33; have hco := Za HM HG HX; (with_reducible refine (Zcx hco).mono (coK ?_)); clear hco HM HF HG HX; intro w' X HF HG HX HM))
 go_ret
 have hco := Co.ok HM.out HG.out HX.out
 exact ⟨rfl, Zb (hco.less (by omega))⟩
theorem Zh1 (hh : s.r.ht = false) (hT : Hid (Tabs W0)) (o : Nat) (ho : Hid (s.begun.nextV = o)) (hop : o = 237) (h : Hid (Co W0 w c b s l (n + 6))) :
  CX 15 #[.pointer (some ⟨c, 0, none⟩)] w (.int .i64 ((((((((s.setDL false).ahead s.r.px).setPX 0)).fetch.ahead 0).fetch).rareC (Cs.xOf (((((s.setDL false).ahead s.r.px).setPX 0)).fetch.ahead 0).nextV) (Cs.yOf (((((s.setDL false).ahead s.r.px).setPX 0)).fetch.ahead 0).nextV) (Cs.zOf (((((s.setDL false).ahead s.r.px).setPX 0)).fetch.ahead 0).nextV) : Nat) : Int)) fun w' => Hid (Co W0 w' c b (((((((s.setDL false).ahead s.r.px).setPX 0)).fetch.ahead 0).fetch).rare (Cs.xOf (((((s.setDL false).ahead s.r.px).setPX 0)).fetch.ahead 0).nextV) (Cs.yOf (((((s.setDL false).ahead s.r.px).setPX 0)).fetch.ahead 0).nextV) (Cs.zOf (((((s.setDL false).ahead s.r.px).setPX 0)).fetch.ahead 0).nextV)) l n) := by
 have HO : Hid ((((s.setDL false).ahead s.r.px).setPX 0).nextV = o) := ho
 obtain ⟨X, hf, HF, HG, HX, HM⟩ := h.out.hif
 have HF0 := HF
 have hg := HG.out
 have hX := HX.out
 have hO := HM.out
 have ob : o < 256 := by rw [← ho.out]; exact hf.m _
 have xp : s.r.px < 256 := hf.r.px
 have x0 : 0 < 256 := by decide
 have o221 : ((o : Int) == 221) = false := by rw [hop]; rfl
 have o253 : ((o : Int) == 253) = false := by rw [hop]; rfl
 have o237 : ((o : Int) == 237) = true := by rw [hop]; rfl
 have o203 : ((o : Int) == 203) = false := by rw [hop]; rfl
 obtain ⟨x, hx⟩ : ∃ x, Hid (Cs.xOf (((((s.setDL false).ahead s.r.px).setPX 0)).fetch.ahead 0).nextV = x) := ⟨_, rfl⟩
 obtain ⟨y, hy⟩ : ∃ y, Hid (Cs.yOf (((((s.setDL false).ahead s.r.px).setPX 0)).fetch.ahead 0).nextV = y) := ⟨_, rfl⟩
 obtain ⟨z, hz⟩ : ∃ z, Hid (Cs.zOf (((((s.setDL false).ahead s.r.px).setPX 0)).fetch.ahead 0).nextV = z) := ⟨_, rfl⟩
 obtain ⟨p, hp⟩ : ∃ p, Hid (y / 2 = p) := ⟨_, rfl⟩
 obtain ⟨q, hq⟩ : ∃ q, Hid (y % 2 = q) := ⟨_, rfl⟩
 have x8 : x < 4 := by rw [← hx.out]; show (((((s.setDL false).ahead s.r.px).setPX 0)).fetch.ahead 0).nextV / 64 < 4; have : (((((s.setDL false).ahead s.r.px).setPX 0)).fetch.ahead 0).nextV < 256 := hf.m _; omega
 have y8 : y < 8 := by rw [← hy.out]; exact Nat.mod_lt _ (by decide)
 have z8 : z < 8 := by rw [← hz.out]; exact Nat.mod_lt _ (by decide)
 have o8 : (((((s.setDL false).ahead s.r.px).setPX 0)).fetch.ahead 0).nextV < 256 := hf.m _
 rw [hx.out, hy.out, hz.out]
 clear h hf hg hX hO
 go_enter Tryz.func15, Tryz.ntmps15
 go_upto_region 15 with (first | refine cG ?_ | (refine cP ?_; clear HM; intro w' HM) | (exact absurd (hh.symm.trans (by assumption : s.r.ht = true)) Bool.noConfusion) | (go_at_call 30; have hco := Za HM HG HX; (with_reducible refine (YO hco).mono (coK ?_)); clear hco HM HF HG HX; intro w' X HF HG HX HM; rw [HO.out]))
 go_wp2_with (first | refine cG ?_ | (refine cP ?_; clear HM; intro w' HM) | (go_at_call 30; have hco := Za HM HG HX; (with_reducible refine (YO hco).mono (coK ?_)); clear hco HM HF HG HX; intro w' X HF HG HX HM) | (go_at_call 32; (with_reducible refine (Jz (((((s.setDL false).ahead s.r.px).setPX 0)).fetch.ahead 0).nextV x y z p q o8 hx hy hz hp hq _).mono ?_); rintro e w' ⟨rfl, hb⟩; replace HM := Zb (HM.out.call hb); clear hb) | (go_at_call 31; have hco := Za HM HG HX; (with_reducible refine (ZhY hT x y z p q z8 hp.out hq.out hco).mono (coK ?_)); clear hco HM HF HG HX; intro w' X HF HG HX HM))
 go_ret
 have hco := Co.ok HM.out HG.out HX.out
 exact ⟨rfl, Zb (hco.less (by omega))⟩
theorem Zaw (hh : s.r.ht = false) (hT : Hid (Tabs W0)) (o : Nat) (ho : Hid (s.begun.nextV = o)) (hop : o ≠ 221 ∧ o ≠ 253 ∧ o ≠ 237 ∧ o ≠ 203) (h : Hid (Co W0 w c b s l (n + 6))) :
  CX 15 #[.pointer (some ⟨c, 0, none⟩)] w (.int .i64 ((((((s.setDL false).ahead s.r.px).setPX 0)).fetch.plainC (Cs.xOf o) (Cs.yOf o) (Cs.zOf o) : Nat) : Int)) fun w' => Hid (Co W0 w' c b (((((s.setDL false).ahead s.r.px).setPX 0)).fetch.plain (Cs.xOf o) (Cs.yOf o) (Cs.zOf o)) l n) := by
 have HO : Hid ((((s.setDL false).ahead s.r.px).setPX 0).nextV = o) := ho
 obtain ⟨X, hf, HF, HG, HX, HM⟩ := h.out.hif
 have HF0 := HF
 have hg := HG.out
 have hX := HX.out
 have hO := HM.out
 have ob : o < 256 := by rw [← ho.out]; exact hf.m _
 have xp : s.r.px < 256 := hf.r.px
 have x0 : 0 < 256 := by decide
 have o221 : ((o : Int) == 221) = false := by simp; omega
 have o253 : ((o : Int) == 253) = false := by simp; omega
 have o237 : ((o : Int) == 237) = false := by simp; omega
 have o203 : ((o : Int) == 203) = false := by simp; omega
 obtain ⟨x, hx⟩ : ∃ x, Hid (Cs.xOf o = x) := ⟨_, rfl⟩
 obtain ⟨y, hy⟩ : ∃ y, Hid (Cs.yOf o = y) := ⟨_, rfl⟩
 obtain ⟨z, hz⟩ : ∃ z, Hid (Cs.zOf o = z) := ⟨_, rfl⟩
 obtain ⟨p, hp⟩ : ∃ p, Hid (y / 2 = p) := ⟨_, rfl⟩
 obtain ⟨q, hq⟩ : ∃ q, Hid (y % 2 = q) := ⟨_, rfl⟩
 have x8 : x < 4 := by rw [← hx.out]; show o / 64 < 4; omega
 have y8 : y < 8 := by rw [← hy.out]; exact Nat.mod_lt _ (by decide)
 have z8 : z < 8 := by rw [← hz.out]; exact Nat.mod_lt _ (by decide)
 have o8 := ob
 rw [hx.out, hy.out, hz.out]
 clear hop
 clear h hf hg hX hO
 go_enter Tryz.func15, Tryz.ntmps15
 go_wp2_with (first | refine cG ?_ | (refine cP ?_; clear HM; intro w' HM) | (exact absurd (hh.symm.trans (by assumption : s.r.ht = true)) Bool.noConfusion) | (go_at_call 30; have hco := Za HM HG HX; (with_reducible refine (YO hco).mono (coK ?_)); clear hco HM HF HG HX; intro w' X HF HG HX HM; rw [HO.out]) | (go_at_call 32; (with_reducible refine (Jz o x y z p q o8 hx hy hz hp hq _).mono ?_); rintro e w' ⟨rfl, hb⟩; replace HM := Zb (HM.out.call hb); clear hb) | (go_at_call 34; have hco := Za HM HG HX; (with_reducible refine (ZeR hT x y z p q x8 y8 z8 hp.out hq.out hco).mono (coK ?_)); clear hco HM HF HG HX; intro w' X HF HG HX HM))
 go_ret
 have hco := Co.ok HM.out HG.out HX.out
 exact ⟨rfl, Zb (hco.less (by omega))⟩
theorem Zh2 (hT : Hid (Tabs W0)) (h : Hid (Co W0 w c b s l (n + 6))) :
  CX 15 #[.pointer (some ⟨c, 0, none⟩)] w (.int .i64 ((s.stepC : Nat) : Int)) fun w' => Hid (Co W0 w' c b (s.step) l n) := by
 cases hh : s.r.ht
 ·obtain ⟨o, ho⟩ : ∃ o, Hid (s.begun.nextV = o) := ⟨_, rfl⟩
  obtain ⟨e1, e2⟩ := Cs.step_eq s o ho.out hh
  rw [← Cs.begun_fetch] at e1 e2
  rw [e1, e2]
  by_cases h1 : o = 221
  ·obtain ⟨e3, e4⟩ := Cs.do_prefix s.begun.fetch o (.inl h1)
   rw [e3, e4]; exact WW hh o ho h1 h
  by_cases h2 : o = 253
  ·obtain ⟨e3, e4⟩ := Cs.do_prefix s.begun.fetch o (.inr h2)
   rw [e3, e4]; exact WX hh o ho h2 h
  by_cases h3 : o = 237
  ·subst h3
   obtain ⟨e3, e4⟩ := Cs.do_rare s.begun.fetch
   rw [e3, e4]; exact Zh1 hh hT 237 ho rfl h
  by_cases h4 : o = 203
  ·subst h4
   have e3 : s.begun.fetch.perform 203 = s.begun.fetch.onBits := (if_neg (by decide)).trans ((if_neg (by decide)).trans ((if_neg (by decide)).trans (if_pos rfl)))
   have e4 : s.begun.fetch.performC 203 = s.begun.fetch.onBitsC := (if_neg (by decide)).trans ((if_neg (by decide)).trans ((if_neg (by decide)).trans (if_pos rfl)))
   rw [e3, e4]; exact Zh0 hh 203 ho rfl h
  obtain ⟨e3, e4⟩ := Cs.do_plain s.begun.fetch o ⟨h1, h2, h3, h4⟩
  rw [e3, e4]; exact Zaw hh hT o ho ⟨h1, h2, h3, h4⟩ h
 ·obtain ⟨e1, e2⟩ := Cs.step_halted s hh
  rw [e1, e2]; exact Zcy hh h
theorem Zcz (h : Hid (Co W0 w c b s l (n))) :
  CX 56 #[.pointer (some ⟨c, 0, none⟩)] w (.tuple #[]) fun w' => Hid (Co W0 w' c b (s.wake) l n) := by
 obtain ⟨X, HF, HG, HX, HM⟩ := h.out.hid
 have HF0 := HF
 clear h
 go_enter Tryz.func56, Tryz.ntmps56
 go_wp2_with (first | refine cG ?_ | (refine cP ?_; clear HM; intro w' HM) | (go_at_call 29; have hco := Za HM HG HX; (with_reducible refine (UC hco).mono (coK ?_)); clear hco HM HF HG HX; intro w' X HF HG HX HM))
 go_end0
 have hco := Co.ok HM.out HG.out HX.out
 exact ⟨rfl, Zb hco⟩
theorem ZeV (v a : Nat) (hv : v < 256) (ha : Hid (v * 256 + 255 = a)) (w : World) : Calls Tryz.prog 117 #[.int .u8 (v : Int), .int .u8 255] w fun e w' => e = .returned (.int .u16 (a : Int)) ∧ w = w' := YF v 255 a hv (by decide) ha w
theorem ZeW (h : Hid (Co W0 w c b s l (n + 2))) : Calls Tryz.prog 57 #[.pointer (some ⟨c, 0, none⟩), .int .u16 56] w fun e w' => e = .returned (.tuple #[]) ∧ Hid (Co W0 w' c b (s.start 56) l n) := YP 56 (by decide) h
theorem ZcA (h : Hid (Co W0 w c b s l (n + 2))) : Calls Tryz.prog 57 #[.pointer (some ⟨c, 0, none⟩), .int .u16 102] w fun e w' => e = .returned (.tuple #[]) ∧ Hid (Co W0 w' c b (s.start 102) l n) := YP 102 (by decide) h
theorem ZkR (hi : s.r.im = 2) (h : Hid (Co W0 w c b s l (n + 4))) :
  CX 58 #[.pointer (some ⟨c, 0, none⟩)] w (.int .i64 19) fun w' => Hid (Co W0 w' c b (((s.push s.r.pc).num (s.r.i * 256 + 255)).goTo ((s.push s.r.pc).numV (s.r.i * 256 + 255))) l n) := by
 obtain ⟨X, hf, HF, HG, HX, HM⟩ := h.out.hif
 have HF0 := HF
 have hg := HG.out
 have hX := HX.out
 have hO := HM.out
 have i2 : ((s.r.im : Int) != 2) = false := by rw [hi]; rfl
 have p1 : s.r.pc < 65536 := hf.r.pc
 obtain ⟨v, hv⟩ : ∃ v, Hid (s.r.i = v) := ⟨_, rfl⟩
 have v1 : v < 256 := by rw [← hv.out]; exact hf.r.i
 have vi : (s.push s.r.pc).r.i = v := by rw [← hv.out]; unfold Cs.push; generalize dn1 (dn1 s.r.sp) = q; generalize dn1 s.r.sp = p; rfl
 have VI := Zb vi
 obtain ⟨a, ha⟩ : ∃ a, Hid (v * 256 + 255 = a) := ⟨_, rfl⟩
 have a1 : a < 65536 := by rw [← ha.out]; omega
 rw [hv.out, ha.out]
 clear vi
 clear hi h hf hg hX hO
 go_enter Tryz.func58, Tryz.ntmps58
 go_upto_region 5 with (first | refine cG ?_ | (refine cP ?_; clear HM; intro w' HM) | (go_at_call 114; have hco := Za HM HG HX; (with_reducible refine (zT _ p1 hco).mono (coK ?_)); clear hco HM HF HG HX; intro w' X HF HG HX HM))
 have n1 : (s.push s.r.pc).numV a < 65536 := Cs.numV_lt HF.out _
 go_wp2_with (first | refine cG ?_ | (refine cP ?_; clear HM; intro w' HM) | (go_at_call 117; rw [VI.out]; (with_reducible refine (ZeV v a v1 ha _).mono ?_); rintro e w' ⟨rfl, rfl⟩) | (go_at_call 116; have hco := Za HM HG HX; (with_reducible refine (Jl _ a1 hco).mono (coK ?_)); clear hco HM HF HG HX; intro w' X HF HG HX HM) | (go_at_call 115; have hco := Za HM HG HX; (with_reducible refine (JP _ n1 hco).mono (coK ?_)); clear hco HM HF HG HX; intro w' X HF HG HX HM))
 go_ret
 have hco := Co.ok HM.out HG.out HX.out
 exact ⟨rfl, Zb (hco.less (by omega))⟩
theorem Zh3 (hi : ¬ s.r.im = 2) (h : Hid (Co W0 w c b s l (n + 4))) :
  CX 58 #[.pointer (some ⟨c, 0, none⟩)] w (.int .i64 13) fun w' => Hid (Co W0 w' c b (s.start 56) l n) := by
 obtain ⟨X, hf, HF, HG, HX, HM⟩ := h.out.hif
 have HF0 := HF
 have hg := HG.out
 have hX := HX.out
 have hO := HM.out
 have i2 : ((s.r.im : Int) != 2) = true := by simp; omega
 clear hi h hf hg hX hO
 go_enter Tryz.func58, Tryz.ntmps58
 go_wp2_with (first | refine cG ?_ | (refine cP ?_; clear HM; intro w' HM) | (go_at_call 57; have hco := Za HM HG HX; (with_reducible refine (ZeW hco).mono (coK ?_)); clear hco HM HF HG HX; intro w' X HF HG HX HM))
 go_ret
 have hco := Co.ok HM.out HG.out HX.out
 exact ⟨rfl, Zb (hco.less (by omega))⟩
theorem ju (h : Hid (Co W0 w c b s l (n + 4))) :
  CX 58 #[.pointer (some ⟨c, 0, none⟩)] w (.int .i64 ((s.lineCameC : Nat) : Int)) fun w' => Hid (Co W0 w' c b (s.lineCame) l n) := by
 by_cases hi : s.r.im = 2
 ·have e2 : s.lineCame = ((s.push s.r.pc).num (s.r.i * 256 + 255)).goTo ((s.push s.r.pc).numV (s.r.i * 256 + 255)) := if_pos hi
  have e3 : s.lineCameC = 19 := if_pos hi
  rw [e2, e3]; exact ZkR hi h
 ·have e2 : s.lineCame = s.start 56 := if_neg hi
  have e3 : s.lineCameC = 13 := if_neg hi
  rw [e2, e3]; exact Zh3 hi h
theorem ZeX (pause line : Bool) (hp : ¬ s.r.px = 0) (h : Hid (Co W0 w c b s l (n + 4))) :
  CX 24 #[.pointer (some ⟨c, 0, none⟩), .bool pause, .bool line] w (.int .i64 0) fun w' => Hid (Co W0 w' c b (s) l n) := by
 obtain ⟨X, hf, HF, HG, HX, HM⟩ := h.out.hif
 have HF0 := HF
 have hg := HG.out
 have hX := HX.out
 have hO := HM.out
 have p0 : ((s.r.px : Int) != 0) = true := by simp; omega
 clear h hf hg hX hO
 go_enter Tryz.func24, Tryz.ntmps24
 go_wp2_with (first | refine cG ?_ | (refine cP ?_; clear HM; intro w' HM))
 go_ret
 have hco := Co.ok HM.out HG.out HX.out
 exact ⟨rfl, Zb (hco.less (by omega))⟩
theorem jv (line : Bool) (hp : s.r.px = 0) (h : Hid (Co W0 w c b s l (n + 4))) :
  CX 24 #[.pointer (some ⟨c, 0, none⟩), .bool true, .bool line] w (.int .i64 11) fun w' => Hid (Co W0 w' c b ((s.setQ1 false).wake.start 102) l n) := by
 obtain ⟨X, hf, HF, HG, HX, HM⟩ := h.out.hif
 have HF0 := HF
 have hg := HG.out
 have hX := HX.out
 have hO := HM.out
 have p0 : ((s.r.px : Int) != 0) = false := by simp; omega
 clear h hf hg hX hO
 go_enter Tryz.func24, Tryz.ntmps24
 go_wp2_with (first | refine cG ?_ | (refine cP ?_; clear HM; intro w' HM) | (go_at_call 56; have hco := Za HM HG HX; (with_reducible refine (Zcz hco).mono (coK ?_)); clear hco HM HF HG HX; intro w' X HF HG HX HM) | (go_at_call 57; have hco := Za HM HG HX; (with_reducible refine (ZcA hco).mono (coK ?_)); clear hco HM HF HG HX; intro w' X HF HG HX HM))
 go_ret
 have hco := Co.ok HM.out HG.out HX.out
 exact ⟨rfl, Zb (hco.less (by omega))⟩
theorem Zax (hp : s.r.px = 0) (h1 : s.r.q1 = true) (h2 : s.r.dl = false) (h : Hid (Co W0 w c b s l (n + 4))) :
  CX 24 #[.pointer (some ⟨c, 0, none⟩), .bool false, .bool true] w (.int .i64 ((((s.setQ1 false).setQ2 false).wake.lineCameC : Nat) : Int)) fun w' => Hid (Co W0 w' c b (((s.setQ1 false).setQ2 false).wake.lineCame) l n) := by
 obtain ⟨X, hf, HF, HG, HX, HM⟩ := h.out.hif
 have HF0 := HF
 have hg := HG.out
 have hX := HX.out
 have hO := HM.out
 have p0 : ((s.r.px : Int) != 0) = false := by simp; omega
 clear h hf hg hX hO
 go_enter Tryz.func24, Tryz.ntmps24
 go_wp2_with (first | refine cG ?_ | (refine cP ?_; clear HM; intro w' HM) | (go_at_call 56; have hco := Za HM HG HX; (with_reducible refine (Zcz hco).mono (coK ?_)); clear hco HM HF HG HX; intro w' X HF HG HX HM) | (go_at_call 58; have hco := Za HM HG HX; (with_reducible refine (ju hco).mono (coK ?_)); clear hco HM HF HG HX; intro w' X HF HG HX HM))
 go_ret
 have hco := Co.ok HM.out HG.out HX.out
 exact ⟨rfl, Zb (hco.less (by omega))⟩
theorem ZcB (hp : s.r.px = 0) (h : Hid (Co W0 w c b s l (n + 4))) :
  CX 24 #[.pointer (some ⟨c, 0, none⟩), .bool false, .bool false] w (.int .i64 0) fun w' => Hid (Co W0 w' c b (s) l n) := by
 obtain ⟨X, hf, HF, HG, HX, HM⟩ := h.out.hif
 have HF0 := HF
 have hg := HG.out
 have hX := HX.out
 have hO := HM.out
 have p0 : ((s.r.px : Int) != 0) = false := by simp; omega
 clear h hf hg hX hO
 go_enter Tryz.func24, Tryz.ntmps24
 go_wp2_with (first | refine cG ?_ | (refine cP ?_; clear HM; intro w' HM))
 go_ret
 have hco := Co.ok HM.out HG.out HX.out
 exact ⟨rfl, Zb (hco.less (by omega))⟩
theorem ZcC (hp : s.r.px = 0) (h1 : s.r.q1 = false) (h : Hid (Co W0 w c b s l (n + 4))) :
  CX 24 #[.pointer (some ⟨c, 0, none⟩), .bool false, .bool true] w (.int .i64 0) fun w' => Hid (Co W0 w' c b (s) l n) := by
 obtain ⟨X, hf, HF, HG, HX, HM⟩ := h.out.hif
 have HF0 := HF
 have hg := HG.out
 have hX := HX.out
 have hO := HM.out
 have p0 : ((s.r.px : Int) != 0) = false := by simp; omega
 clear h hf hg hX hO
 go_enter Tryz.func24, Tryz.ntmps24
 go_wp2_with (first | refine cG ?_ | (refine cP ?_; clear HM; intro w' HM))
 go_ret
 have hco := Co.ok HM.out HG.out HX.out
 exact ⟨rfl, Zb (hco.less (by omega))⟩
theorem ZcD (hp : s.r.px = 0) (h1 : s.r.q1 = true) (h2 : s.r.dl = true) (h : Hid (Co W0 w c b s l (n + 4))) :
  CX 24 #[.pointer (some ⟨c, 0, none⟩), .bool false, .bool true] w (.int .i64 0) fun w' => Hid (Co W0 w' c b (s) l n) := by
 obtain ⟨X, hf, HF, HG, HX, HM⟩ := h.out.hif
 have HF0 := HF
 have hg := HG.out
 have hX := HX.out
 have hO := HM.out
 have p0 : ((s.r.px : Int) != 0) = false := by simp; omega
 clear h hf hg hX hO
 go_enter Tryz.func24, Tryz.ntmps24
 go_wp2_with (first | refine cG ?_ | (refine cP ?_; clear HM; intro w' HM))
 go_ret
 have hco := Co.ok HM.out HG.out HX.out
 exact ⟨rfl, Zb (hco.less (by omega))⟩
theorem WY (pause line : Bool) (h : Hid (Co W0 w c b s l (n + 4))) :
  CX 24 #[.pointer (some ⟨c, 0, none⟩), .bool pause, .bool line] w (.int .i64 ((s.interC pause line : Nat) : Int)) fun w' => Hid (Co W0 w' c b (s.inter pause line) l n) := by
 unfold Cs.inter Cs.interC
 by_cases hp : s.r.px = 0
 ·have e0 : Nat.beq s.r.px 0 = true := by rw [hp]; rfl
  cases pause
  ·cases line
   ·have e : s.takes false false = false := by unfold Cs.takes; rw [e0]; rfl
    rw [e]; exact ZcB hp h
   ·cases h1 : s.r.q1
    ·have e : s.takes false true = false := by unfold Cs.takes; rw [e0, h1]; rfl
     rw [e]; exact ZcC hp h1 h
    ·cases h2 : s.r.dl
     ·have e : s.takes false true = true := by unfold Cs.takes; rw [e0, h1, h2]; rfl
      rw [e]; exact Zax hp h1 h2 h
     ·have e : s.takes false true = false := by unfold Cs.takes; rw [e0, h1, h2]; rfl
      rw [e]; exact ZcD hp h1 h2 h
  ·have e : s.takes true line = true := by unfold Cs.takes; rw [e0]; rfl
   rw [e]; exact jv line hp h
 ·have e0 : Nat.beq s.r.px 0 = false := by rw [← Bool.not_eq_true, Nat.beq_eq]; exact hp
  have e : s.takes pause line = false := by unfold Cs.takes; rw [e0]; rfl
  rw [e]; exact ZeX pause line hp h
theorem aggCore : Agg Tryz.prog 52 31 := ⟨⟨_, Tryz.underlying52, rfl⟩, by kernel_rfl⟩
def core0 : List Value := rg0.cells ++ [Value.nilIface, .int .u8 0]
theorem zeroCore : ZgV Tryz.prog 52 core0 := ⟨.agg core0.toArray, fun _ => by kernel_rfl, rfl⟩
theorem core0_length : core0.length = 31 := rfl
theorem Cs.one1 (s : Cs) (b : Nat) : (s.cells b).all (·.oneCell') = true := rfl
theorem ZD {P : Program} {fn : Func} {p q : Tmp} {ty t : TypeId} {g n : Nat} {cs : List Value} {v : Value} (HM : Hid (Own W0 w l)) (h : fn.results = #[.cell p ty, .tmp q]) (tmps : Array Value) (hp : tmps.getD p undef = .pointer (some ⟨g, 0, none⟩)) (hq : tmps.getD q undef = v) (hs : Sel l g t cs)
  (hty : Agg P ty n) (hn : cs.length = n) : (results fn tmps).run P w = .ok (.tuple #[.agg cs.toArray, v]) w := by
 obtain ⟨⟨d, hu, hr⟩, hsz⟩ := hty
 have hrun := run_loadVar_row (P := P) w g t ty cs.toArray (0, 0) d (HM.out.at_ hs) hu (by cases d <;> first | rfl | cases hr) (by simpa [hn] using hsz)
 rw [results_cell_tmp h, hp, hq]
 simp [asAddr, Result.andThen, hrun]
theorem Own.rest {e : Nat × TypeId × List Value} (h : Own W0 w (e :: l)) : Own W0 w l := h.tail (l1 := [e])
theorem ZeY {P : Program} {w : World} {ops : Array Oper} {rest : List Oper} {o : Oper} {a : Act} {Q : Exit → Act → World → Prop} {x : Operand} {v : Value} (ho : o.op = .move x) (hx : a.eval x = v) (hw : Region.wanted o (yielded ops a.tmps) = true)
  (h : wpList P ops Q rest (a.put o.dst v) w) : wpList P ops Q (o :: rest) a w := by
 refine Zp hw fun K hK => ?_
 unfold Oper.wp execOp
 simp only [ho, hx]
 exact hK _ _ h
theorem Vv {P : Program} {w : World} {ops : Array Oper} {rest : List Oper} {o : Oper} {a : Act} {Q : Exit → Act → World → Prop} {t : TypeId} {parts : Array (Nat × Operand)} {v : Value} {parts' : Array (Nat × Value)} (hx : ∀ w, (Instr.build t parts').run P w = .ok v w)
  (ho : o.op = .build t parts) (hp : (parts.map fun (i, x) => (i, a.eval x)) = parts') (hw : Region.wanted o (yielded ops a.tmps) = true) (h : wpList P ops Q rest (a.put o.dst v) w) : wpList P ops Q (o :: rest) a w := by
 refine Zp hw fun K hK => ?_
 unfold Oper.wp execOp
 simp only [ho, Sem.run_bind, hp]
 rw [hx]
 exact hK _ _ h
theorem Ua {P : Program} {w : World} {ops : Array Oper} {rest : List Oper} {o : Oper} {a : Act} {Q : Exit → Act → World → Prop} {t : TypeId} {i : Nat} {x : Operand} {vx v : Value} (hx : ∀ w, (Instr.build t #[(i, vx)]).run P w = .ok v w)
  (ho : o.op = .build t #[(i, x)]) (h1 : a.eval x = vx) (hw : Region.wanted o (yielded ops a.tmps) = true) (h : wpList P ops Q rest (a.put o.dst v) w) : wpList P ops Q (o :: rest) a w :=
 Vv hx ho (by simp [h1]) hw h
theorem KE {P : Program} {w : World} {ops : Array Oper} {rest : List Oper} {o : Oper} {a : Act} {Q : Exit → Act → World → Prop} {t : TypeId} {i j : Nat} {x y : Operand} {vx vy v : Value} (hx : ∀ w, (Instr.build t #[(i, vx), (j, vy)]).run P w = .ok v w)
  (ho : o.op = .build t #[(i, x), (j, y)]) (h1 : a.eval x = vx) (h2 : a.eval y = vy) (hw : Region.wanted o (yielded ops a.tmps) = true) (h : wpList P ops Q rest (a.put o.dst v) w) : wpList P ops Q (o :: rest) a w :=
 Vv hx ho (by simp [h1, h2]) hw h
theorem Zay (r : Rg) (b : Nat) (u : U) (w : World) : (Instr.build 52 #[(0, r.v), (1, .iface 29 (.pointer (some ⟨b, 0, none⟩)))]).run Tryz.prog w = .ok (.agg ((Cs.mk r 0 u).cells b).toArray) w := by
 exact k58
theorem yH (r : Rg) (b : Nat) (u : U) (w : World) :
  CB 14 #[r.v, .iface 29 (.pointer (some ⟨b, 0, none⟩))] w (.agg ((Cs.mk r 0 u).cells b).toArray) := by
 have hb : ∀ w, (Instr.build 52 #[(0, r.v), (1, .iface 29 (.pointer (some ⟨b, 0, none⟩)))]).run Tryz.prog w = .ok (.agg ((Cs.mk r 0 u).cells b).toArray) w := Zay r b u
 have HM := Zb (Own.start w)
 go_enter Tryz.func14, Tryz.ntmps14
 go_upto_region 3 with (first | (refine a0 ?_; clear HM; intro w' g' HM) | refine a6 ?_ | ((with_reducible apply YC HM); exact rfl; (with_reducible exact zeroCore); exact rfl; clear HM; intro w' g' HM))
 refine wp_region_lit ?_
 (refine a6 ?_)
 (with_reducible apply ZeY); exact rfl; exact rfl; exact rfl
 (with_reducible apply KE hb); exact rfl; exact rfl; exact rfl; exact rfl
 ((with_reducible apply Kn HM); exact rfl; exact rfl; exact rfl; (first | with_reducible exact .z | with_reducible exact .s .z | with_reducible exact .s (.s .z)); (first | with_reducible exact .z | with_reducible exact .s .z | with_reducible exact .s (.s .z)); exact aggCore.size; (first | exact Cs.cells_length _ _ | exact rfl); (first | exact core0_length | exact Cs.cells_length _ _ | exact rfl); exact Cs.one1 _ _; exact rfl; exact rfl; clear HM; intro w' HM)
 go_wp2_with fail
 refine bodyPost_ret (v := .agg ((Cs.mk r 0 u).cells b).toArray) (Zi HM Tryz.results14 _ rfl (by first | exact .z | exact .s .z) aggCore) rfl ⟨rfl, Own.fin HM⟩
theorem Zh4 {c b n k : Nat} {s s' : Cs} (hT : Hid (Tabs W0)) (hs : Hid (s.step = s')) (hk : Hid (s.stepC = k)) (h : Hid (Co W0 w c b s l (n + 6))) :
  CX 15 #[.pointer (some ⟨c, 0, none⟩)] w (.int .i64 (k : Int)) fun w' => Hid (Co W0 w' c b s' l n) := by
 rw [← hs.out, ← hk.out]
 exact Zh2 hT h
theorem WZ {c b n k : Nat} {s s' : Cs} (pause line : Bool) (hs : Hid (s.inter pause line = s')) (hk : Hid (s.interC pause line = k)) (h : Hid (Co W0 w c b s l (n + 4))) :
  CX 24 #[.pointer (some ⟨c, 0, none⟩), .bool pause, .bool line] w (.int .i64 (k : Int)) fun w' => Hid (Co W0 w' c b s' l n) := by
 rw [← hs.out, ← hk.out]
 exact WY pause line h
theorem yI (hT : Hid (Tabs W0)) (r : Rg) (u : U) (hr : r.Fits) (h : Hid (Bx W0 w b u l (n + 6))) :
  CX 9 #[r.v, .iface 29 (.pointer (some ⟨b, 0, none⟩))] w (.tuple #[(Cs.step ⟨r, 0, u⟩).r.v, .int .i64 (((Cs.stepC ⟨r, 0, u⟩) : Nat) : Int)]) fun w' => (Cs.step ⟨r, 0, u⟩).r.Fits ∧ Hid (Bx W0 w' b (Cs.step ⟨r, 0, u⟩).u l n) := by
 obtain ⟨hg, X, hX, hO⟩ := h.out
 have HG := Zb hg
 have HX := Zb hX
 have HM := Zb hO
 have HR := Zb hr
 have HF : Hid (Cs.mk r 0 u).Fits := Zb ⟨hr, by show 0 < 256; decide, hg.m8⟩
 clear h hg hX hO hr
 obtain ⟨s', hs'⟩ : ∃ x, Hid (Cs.step ⟨r, 0, u⟩ = x) := ⟨_, rfl⟩
 obtain ⟨k', hk'⟩ : ∃ x, Hid (Cs.stepC ⟨r, 0, u⟩ = x) := ⟨_, rfl⟩
 rw [hs'.out, hk'.out]
 go_enter Tryz.func9, Tryz.ntmps9
 go_upto_region 2 with (first | (refine a0 ?_; clear HM; intro w' g' HM) | refine a6 ?_ | ((with_reducible apply YC HM); exact rfl; (first | (with_reducible exact zeroR) | (with_reducible exact zeroCore)); exact rfl; clear HM; intro w' g' HM) | (go_at_call 14; (with_reducible refine (yH r b u _).mono ?_); rintro e w' ⟨rfl, hb⟩; replace HM := Zb (HM.out.call hb); clear hb) | ((with_reducible apply Kn HM); exact rfl; exact rfl; exact rfl; (first | with_reducible exact .z | with_reducible exact .s .z | with_reducible exact .s (.s .z)); (first | with_reducible exact .z | with_reducible exact .s .z | with_reducible exact .s (.s .z)); exact aggCore.size; (first | exact Cs.cells_length _ _ | exact rfl); (first | exact core0_length | exact Cs.cells_length _ _ | exact rfl); exact Cs.one1 _ _; exact rfl; exact rfl; clear HM; intro w' HM))
 go_upto_region 3 with (first | (go_at_call 15; have hco := Zb (Co.made (s := ⟨r, 0, u⟩) (l := _ :: _ :: l) HM.out HG.out HX.out HF.out); (with_reducible refine (Zh4 hT hs' hk' hco).mono ?_); clear hco; rintro e w' ⟨rfl, hc⟩; clear HM HF HG HX; obtain ⟨X, HF, HG, HX, HM⟩ := hc.out.hid2; clear hc))
 go_wp2_with (first | ((with_reducible apply crY HM); exact crS) | (refine a71 ?_; clear HM; intro w' HM))
 refine bodyPost_ret (v := .tuple #[s'.r.v, .int .i64 (k' : Int)]) (ZD HM Tryz.results9 _ rfl rfl (.s .z) aggR (Rg.cells_length _)) rfl ⟨rfl, HF.out.r, Zb ⟨HG.out, _, HX.out, HM.out.rest.rest.rest⟩⟩
theorem ZcE (r : Rg) (u : U) (pause line : Bool) (hr : r.Fits) (h : Hid (Bx W0 w b u l (n + 4))) :
  CX 12 #[r.v, .iface 29 (.pointer (some ⟨b, 0, none⟩)), .bool pause, .bool line] w (.tuple #[(Cs.inter ⟨r, 0, u⟩ pause line).r.v, .int .i64 (((Cs.interC ⟨r, 0, u⟩ pause line) : Nat) : Int)]) fun w' => (Cs.inter ⟨r, 0, u⟩ pause line).r.Fits ∧ Hid (Bx W0 w' b (Cs.inter ⟨r, 0, u⟩ pause line).u l n) := by
 obtain ⟨hg, X, hX, hO⟩ := h.out
 have HG := Zb hg
 have HX := Zb hX
 have HM := Zb hO
 have HR := Zb hr
 have HF : Hid (Cs.mk r 0 u).Fits := Zb ⟨hr, by show 0 < 256; decide, hg.m8⟩
 clear h hg hX hO hr
 obtain ⟨s', hs'⟩ : ∃ x, Hid (Cs.inter ⟨r, 0, u⟩ pause line = x) := ⟨_, rfl⟩
 obtain ⟨k', hk'⟩ : ∃ x, Hid (Cs.interC ⟨r, 0, u⟩ pause line = x) := ⟨_, rfl⟩
 rw [hs'.out, hk'.out]
 go_enter Tryz.func12, Tryz.ntmps12
 go_upto_region 2 with (first | (refine a0 ?_; clear HM; intro w' g' HM) | refine a6 ?_ | ((with_reducible apply YC HM); exact rfl; (first | (with_reducible exact zeroR) | (with_reducible exact zeroCore)); exact rfl; clear HM; intro w' g' HM) | (go_at_call 14; (with_reducible refine (yH r b u _).mono ?_); rintro e w' ⟨rfl, hb⟩; replace HM := Zb (HM.out.call hb); clear hb) | ((with_reducible apply Kn HM); exact rfl; exact rfl; exact rfl; (first | with_reducible exact .z | with_reducible exact .s .z | with_reducible exact .s (.s .z)); (first | with_reducible exact .z | with_reducible exact .s .z | with_reducible exact .s (.s .z)); exact aggCore.size; (first | exact Cs.cells_length _ _ | exact rfl); (first | exact core0_length | exact Cs.cells_length _ _ | exact rfl); exact Cs.one1 _ _; exact rfl; exact rfl; clear HM; intro w' HM))
 go_upto_region 3 with (first | (go_at_call 24; have hco := Zb (Co.made (s := ⟨r, 0, u⟩) (l := _ :: _ :: l) HM.out HG.out HX.out HF.out); (with_reducible refine (WZ pause line hs' hk' hco).mono ?_); clear hco; rintro e w' ⟨rfl, hc⟩; clear HM HF HG HX; obtain ⟨X, HF, HG, HX, HM⟩ := hc.out.hid2; clear hc))
 go_wp2_with (first | ((with_reducible apply crY HM); exact crS) | (refine a71 ?_; clear HM; intro w' HM))
 refine bodyPost_ret (v := .tuple #[s'.r.v, .int .i64 (k' : Int)]) (ZD HM Tryz.results12 _ rfl rfl (.s .z) aggR (Rg.cells_length _)) rfl ⟨rfl, HF.out.r, Zb ⟨HG.out, _, HX.out, HM.out.rest.rest.rest⟩⟩
end
end Go.Proofs.YtgdeeiimkhjfiaaGreatDoor
