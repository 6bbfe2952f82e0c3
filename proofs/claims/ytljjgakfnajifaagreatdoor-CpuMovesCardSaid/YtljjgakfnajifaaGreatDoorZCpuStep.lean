import Derived.Test.YtljjgakfnajifaaGreatDoorZCpuPl
import Derived.Test.YtljjgakfnajifaaGreatDoorZCpuRa
import Derived.Test.YtljjgakfnajifaaGreatDoorZCpuB2
import Derived.Test.YtljjgakfnajifaaGreatDoorZBase
import Derived.Deep.Cut
import Derived.Deep.RegionHeld3
import Derived.Deep.CutRange
namespace Go.Proofs.YtljjgakfnajifaaGreatDoor
open Go.RowKit
set_option maxRecDepth 100000 in
set_option maxHeartbeats 800000 in
theorem step_halt {W0 w : World} {c b n : Nat} {s : Cs} {l : Blocks} (hh : s.r.ht = true) (h : Hid (Co W0 w c b s l (n + 6))) :
    Calls Tryz.prog 25 #[.pointer (some ⟨c, 0, none⟩)] w fun e w' => e = .returned (.int .i64 4) ∧ Hid (Co W0 w' c b (s.tick) l n) := by
  obtain ⟨hf, hg, X, hX, hO⟩ := h.out.out
  have HF := Lib.hid hf
  have HF0 := Lib.hid hf
  have HG := Lib.hid hg
  have HX := Lib.hid hX
  have HM := Lib.hid hO
  clear h hf hg hX hO
  go_enter Tryz.func25, Tryz.ntmps25
  go_wp2_with (first
    | ((with_reducible apply cgY HM); exact cgS) | ((with_reducible apply cpY HM); exact cpS; clear HM; intro w' HM) | ((with_reducible apply crY HM); exact crS) | ((with_reducible apply clY HM); exact clS; clear HM; intro w' HM)
    | (exact absurd (hh.symm.trans (by assumption : s.r.ht = false)) Bool.noConfusion)
    | (go_at_call 43; have hco := Lib.hid (Co.ok HM.out HG.out HX.out); (with_reducible refine (ctick_at hco).mono ?_); clear hco; rintro e w' ⟨rfl, hc⟩; clear HM HF HG HX; obtain ⟨X, HF, HG, HX, HM⟩ := hc.out.hid; clear hc))
  go_ret
  have hco := Co.ok HM.out HG.out HX.out
  exact ⟨rfl, Lib.hid (hco.less (by omega))⟩
set_option maxRecDepth 100000 in
set_option maxHeartbeats 800000 in
theorem step_pre_221 {W0 w : World} {c b n : Nat} {s : Cs} {l : Blocks} (hh : s.r.ht = false) (o : Nat) (ho : Hid (s.begun.nextV = o)) (hop : o = 221) (h : Hid (Co W0 w c b s l (n + 6))) :
    Calls Tryz.prog 25 #[.pointer (some ⟨c, 0, none⟩)] w fun e w' => e = .returned (.int .i64 4) ∧ Hid (Co W0 w' c b (((((s.setDL false).ahead s.r.px).setPX 0)).fetch.setPX o) l n) := by
  have HO : Hid ((((s.setDL false).ahead s.r.px).setPX 0).nextV = o) := ho
  obtain ⟨hf, hg, X, hX, hO⟩ := h.out.out
  have HF := Lib.hid hf
  have HF0 := Lib.hid hf
  have HG := Lib.hid hg
  have HX := Lib.hid hX
  have HM := Lib.hid hO
  have ob : o < 256 := by rw [← ho.out]; exact hf.m _
  have xp : s.r.px < 256 := hf.r.px
  have x0 : 0 < 256 := by decide
  have o221 : ((o : Int) == 221) = true := by rw [hop]; rfl
  have o253 : ((o : Int) == 253) = false := by rw [hop]; rfl
  have o237 : ((o : Int) == 237) = false := by rw [hop]; rfl
  have o203 : ((o : Int) == 203) = false := by rw [hop]; rfl
  clear h hf hg hX hO
  go_enter Tryz.func25, Tryz.ntmps25
  go_wp2_with (first
    | ((with_reducible apply cgY HM); exact cgS) | ((with_reducible apply cpY HM); exact cpS; clear HM; intro w' HM) | ((with_reducible apply crY HM); exact crS) | ((with_reducible apply clY HM); exact clS; clear HM; intro w' HM)
    | (exact absurd (hh.symm.trans (by assumption : s.r.ht = true)) Bool.noConfusion)
    | (go_at_call 44; have hco := Lib.hid (Co.ok HM.out HG.out HX.out); (with_reducible refine (fetch_at hco).mono ?_); clear hco; rintro e w' ⟨rfl, hc⟩; clear HM HF HG HX; obtain ⟨X, HF, HG, HX, HM⟩ := hc.out.hid; clear hc; rw [HO.out]))
  go_ret
  have hco := Co.ok HM.out HG.out HX.out
  exact ⟨rfl, Lib.hid (hco.less (by omega))⟩
set_option maxRecDepth 100000 in
set_option maxHeartbeats 800000 in
theorem step_pre_253 {W0 w : World} {c b n : Nat} {s : Cs} {l : Blocks} (hh : s.r.ht = false) (o : Nat) (ho : Hid (s.begun.nextV = o)) (hop : o = 253) (h : Hid (Co W0 w c b s l (n + 6))) :
    Calls Tryz.prog 25 #[.pointer (some ⟨c, 0, none⟩)] w fun e w' => e = .returned (.int .i64 4) ∧ Hid (Co W0 w' c b (((((s.setDL false).ahead s.r.px).setPX 0)).fetch.setPX o) l n) := by
  have HO : Hid ((((s.setDL false).ahead s.r.px).setPX 0).nextV = o) := ho
  obtain ⟨hf, hg, X, hX, hO⟩ := h.out.out
  have HF := Lib.hid hf
  have HF0 := Lib.hid hf
  have HG := Lib.hid hg
  have HX := Lib.hid hX
  have HM := Lib.hid hO
  have ob : o < 256 := by rw [← ho.out]; exact hf.m _
  have xp : s.r.px < 256 := hf.r.px
  have x0 : 0 < 256 := by decide
  have o221 : ((o : Int) == 221) = false := by rw [hop]; rfl
  have o253 : ((o : Int) == 253) = true := by rw [hop]; rfl
  have o237 : ((o : Int) == 237) = false := by rw [hop]; rfl
  have o203 : ((o : Int) == 203) = false := by rw [hop]; rfl
  clear h hf hg hX hO
  go_enter Tryz.func25, Tryz.ntmps25
  go_wp2_with (first
    | ((with_reducible apply cgY HM); exact cgS) | ((with_reducible apply cpY HM); exact cpS; clear HM; intro w' HM) | ((with_reducible apply crY HM); exact crS) | ((with_reducible apply clY HM); exact clS; clear HM; intro w' HM)
    | (exact absurd (hh.symm.trans (by assumption : s.r.ht = true)) Bool.noConfusion)
    | (go_at_call 44; have hco := Lib.hid (Co.ok HM.out HG.out HX.out); (with_reducible refine (fetch_at hco).mono ?_); clear hco; rintro e w' ⟨rfl, hc⟩; clear HM HF HG HX; obtain ⟨X, HF, HG, HX, HM⟩ := hc.out.hid; clear hc; rw [HO.out]))
  go_ret
  have hco := Co.ok HM.out HG.out HX.out
  exact ⟨rfl, Lib.hid (hco.less (by omega))⟩
set_option maxRecDepth 100000 in
set_option maxHeartbeats 800000 in
theorem step_cb {W0 w : World} {c b n : Nat} {s : Cs} {l : Blocks} (hh : s.r.ht = false) (o : Nat) (ho : Hid (s.begun.nextV = o)) (hop : o = 203) (h : Hid (Co W0 w c b s l (n + 6))) :
    Calls Tryz.prog 25 #[.pointer (some ⟨c, 0, none⟩)] w fun e w' => e = .returned (.int .i64 ((((((s.setDL false).ahead s.r.px).setPX 0)).fetch.onBitsC : Nat) : Int)) ∧ Hid (Co W0 w' c b (((((s.setDL false).ahead s.r.px).setPX 0)).fetch.onBits) l n) := by
  have HO : Hid ((((s.setDL false).ahead s.r.px).setPX 0).nextV = o) := ho
  obtain ⟨hf, hg, X, hX, hO⟩ := h.out.out
  have HF := Lib.hid hf
  have HF0 := Lib.hid hf
  have HG := Lib.hid hg
  have HX := Lib.hid hX
  have HM := Lib.hid hO
  have ob : o < 256 := by rw [← ho.out]; exact hf.m _
  have xp : s.r.px < 256 := hf.r.px
  have x0 : 0 < 256 := by decide
  have o221 : ((o : Int) == 221) = false := by rw [hop]; rfl
  have o253 : ((o : Int) == 253) = false := by rw [hop]; rfl
  have o237 : ((o : Int) == 237) = false := by rw [hop]; rfl
  have o203 : ((o : Int) == 203) = true := by rw [hop]; rfl
  clear h hf hg hX hO
  go_enter Tryz.func25, Tryz.ntmps25
  go_wp2_with (first
    | ((with_reducible apply cgY HM); exact cgS) | ((with_reducible apply cpY HM); exact cpS; clear HM; intro w' HM) | ((with_reducible apply crY HM); exact crS) | ((with_reducible apply clY HM); exact clS; clear HM; intro w' HM)
    | (exact absurd (hh.symm.trans (by assumption : s.r.ht = true)) Bool.noConfusion)
    | (go_at_call 44; have hco := Lib.hid (Co.ok HM.out HG.out HX.out); (with_reducible refine (fetch_at hco).mono ?_); clear hco; rintro e w' ⟨rfl, hc⟩; clear HM HF HG HX; obtain ⟨X, HF, HG, HX, HM⟩ := hc.out.hid; clear hc; rw [HO.out])
    | (go_at_call 47; have hco := Lib.hid (Co.ok HM.out HG.out HX.out); (with_reducible refine (onBits_at hco).mono ?_); clear hco; rintro e w' ⟨rfl, hc⟩; clear HM HF HG HX; obtain ⟨X, HF, HG, HX, HM⟩ := hc.out.hid; clear hc))
  go_ret
  have hco := Co.ok HM.out HG.out HX.out
  exact ⟨rfl, Lib.hid (hco.less (by omega))⟩
set_option maxRecDepth 100000 in
set_option maxHeartbeats 800000 in
theorem step_ed {W0 w : World} {c b n : Nat} {s : Cs} {l : Blocks} (hh : s.r.ht = false) (hT : Hid (Tabs W0)) (o : Nat) (ho : Hid (s.begun.nextV = o)) (hop : o = 237) (h : Hid (Co W0 w c b s l (n + 6))) :
    Calls Tryz.prog 25 #[.pointer (some ⟨c, 0, none⟩)] w fun e w' => e = .returned (.int .i64 ((((((((s.setDL false).ahead s.r.px).setPX 0)).fetch.ahead 0).fetch).rareC (Cs.xOf (((((s.setDL false).ahead s.r.px).setPX 0)).fetch.ahead 0).nextV) (Cs.yOf (((((s.setDL false).ahead s.r.px).setPX 0)).fetch.ahead 0).nextV) (Cs.zOf (((((s.setDL false).ahead s.r.px).setPX 0)).fetch.ahead 0).nextV) : Nat) : Int)) ∧ Hid (Co W0 w' c b (((((((s.setDL false).ahead s.r.px).setPX 0)).fetch.ahead 0).fetch).rare (Cs.xOf (((((s.setDL false).ahead s.r.px).setPX 0)).fetch.ahead 0).nextV) (Cs.yOf (((((s.setDL false).ahead s.r.px).setPX 0)).fetch.ahead 0).nextV) (Cs.zOf (((((s.setDL false).ahead s.r.px).setPX 0)).fetch.ahead 0).nextV)) l n) := by
  have HO : Hid ((((s.setDL false).ahead s.r.px).setPX 0).nextV = o) := ho
  obtain ⟨hf, hg, X, hX, hO⟩ := h.out.out
  have HF := Lib.hid hf
  have HF0 := Lib.hid hf
  have HG := Lib.hid hg
  have HX := Lib.hid hX
  have HM := Lib.hid hO
  have ob : o < 256 := by rw [← ho.out]; exact hf.m _
  have xp : s.r.px < 256 := hf.r.px
  have x0 : 0 < 256 := by decide
  have o221 : ((o : Int) == 221) = false := by rw [hop]; rfl
  have o253 : ((o : Int) == 253) = false := by rw [hop]; rfl
  have o237 : ((o : Int) == 237) = true := by rw [hop]; rfl
  have o203 : ((o : Int) == 203) = false := by rw [hop]; rfl
  obtain ⟨x, hx⟩ : ∃ x, Hid (Cs.xOf (((((s.setDL false).ahead s.r.px).setPX 0)).fetch.ahead 0).nextV = x) := ⟨_, rfl⟩
  obtain ⟨y, hy⟩ : ∃ y, Hid (Cs.yOf (((((s.setDL false).ahead s.r.px).setPX 0)).fetch.ahead 0).nextV = y) := ⟨_, rfl⟩
  obtain ⟨z, hz⟩ : ∃ z, Hid (Cs.zOf (((((s.setDL false).ahead s.r.px).setPX 0)).fetch.ahead 0).nextV = z) := ⟨_, rfl⟩
  obtain ⟨p, hp⟩ : ∃ p, Hid (y / 2 = p) := ⟨_, rfl⟩
  obtain ⟨q, hq⟩ : ∃ q, Hid (y % 2 = q) := ⟨_, rfl⟩
  have x8 : x < 4 := by rw [← hx.out]; show (((((s.setDL false).ahead s.r.px).setPX 0)).fetch.ahead 0).nextV / 64 < 4; have : (((((s.setDL false).ahead s.r.px).setPX 0)).fetch.ahead 0).nextV < 256 := hf.m _; omega
  have y8 : y < 8 := by rw [← hy.out]; exact Nat.mod_lt _ (by decide)
  have z8 : z < 8 := by rw [← hz.out]; exact Nat.mod_lt _ (by decide)
  have o8 : (((((s.setDL false).ahead s.r.px).setPX 0)).fetch.ahead 0).nextV < 256 := hf.m _
  rw [hx.out, hy.out, hz.out]
  clear h hf hg hX hO
  go_enter Tryz.func25, Tryz.ntmps25
  go_upto_region 15 with (first
    | ((with_reducible apply cgY HM); exact cgS) | ((with_reducible apply cpY HM); exact cpS; clear HM; intro w' HM) | ((with_reducible apply crY HM); exact crS) | ((with_reducible apply clY HM); exact clS; clear HM; intro w' HM)
    | (exact absurd (hh.symm.trans (by assumption : s.r.ht = true)) Bool.noConfusion)
    | (go_at_call 44; have hco := Lib.hid (Co.ok HM.out HG.out HX.out); (with_reducible refine (fetch_at hco).mono ?_); clear hco; rintro e w' ⟨rfl, hc⟩; clear HM HF HG HX; obtain ⟨X, HF, HG, HX, HM⟩ := hc.out.hid; clear hc; rw [HO.out]))
  go_wp2_with (first
    | ((with_reducible apply cgY HM); exact cgS) | ((with_reducible apply cpY HM); exact cpS; clear HM; intro w' HM) | ((with_reducible apply crY HM); exact crS) | ((with_reducible apply clY HM); exact clS; clear HM; intro w' HM)
    | (go_at_call 44; have hco := Lib.hid (Co.ok HM.out HG.out HX.out); (with_reducible refine (fetch_at hco).mono ?_); clear hco; rintro e w' ⟨rfl, hc⟩; clear HM HF HG HX; obtain ⟨X, HF, HG, HX, HM⟩ := hc.out.hid; clear hc)
    | (go_at_call 46; (with_reducible refine (parts_of (((((s.setDL false).ahead s.r.px).setPX 0)).fetch.ahead 0).nextV x y z p q o8 hx hy hz hp hq _).mono ?_); rintro e w' ⟨rfl, hb⟩; replace HM := Lib.hid (HM.out.call hb); clear hb)
    | (go_at_call 45; have hco := Lib.hid (Co.ok HM.out HG.out HX.out); (with_reducible refine (rare_at hT x y z p q z8 hp.out hq.out hco).mono ?_); clear hco; rintro e w' ⟨rfl, hc⟩; clear HM HF HG HX; obtain ⟨X, HF, HG, HX, HM⟩ := hc.out.hid; clear hc))
  go_ret
  have hco := Co.ok HM.out HG.out HX.out
  exact ⟨rfl, Lib.hid (hco.less (by omega))⟩
set_option maxRecDepth 100000 in
set_option maxHeartbeats 800000 in
theorem step_plain {W0 w : World} {c b n : Nat} {s : Cs} {l : Blocks} (hh : s.r.ht = false) (hT : Hid (Tabs W0)) (o : Nat) (ho : Hid (s.begun.nextV = o)) (hop : o ≠ 221 ∧ o ≠ 253 ∧ o ≠ 237 ∧ o ≠ 203) (h : Hid (Co W0 w c b s l (n + 6))) :
    Calls Tryz.prog 25 #[.pointer (some ⟨c, 0, none⟩)] w fun e w' => e = .returned (.int .i64 ((((((s.setDL false).ahead s.r.px).setPX 0)).fetch.plainC (Cs.xOf o) (Cs.yOf o) (Cs.zOf o) : Nat) : Int)) ∧ Hid (Co W0 w' c b (((((s.setDL false).ahead s.r.px).setPX 0)).fetch.plain (Cs.xOf o) (Cs.yOf o) (Cs.zOf o)) l n) := by
  have HO : Hid ((((s.setDL false).ahead s.r.px).setPX 0).nextV = o) := ho
  obtain ⟨hf, hg, X, hX, hO⟩ := h.out.out
  have HF := Lib.hid hf
  have HF0 := Lib.hid hf
  have HG := Lib.hid hg
  have HX := Lib.hid hX
  have HM := Lib.hid hO
  have ob : o < 256 := by rw [← ho.out]; exact hf.m _
  have xp : s.r.px < 256 := hf.r.px
  have x0 : 0 < 256 := by decide
  have o221 : ((o : Int) == 221) = false := by simp; omega
  have o253 : ((o : Int) == 253) = false := by simp; omega
  have o237 : ((o : Int) == 237) = false := by simp; omega
  have o203 : ((o : Int) == 203) = false := by simp; omega
  obtain ⟨x, hx⟩ : ∃ x, Hid (Cs.xOf o = x) := ⟨_, rfl⟩
  obtain ⟨y, hy⟩ : ∃ y, Hid (Cs.yOf o = y) := ⟨_, rfl⟩
  obtain ⟨z, hz⟩ : ∃ z, Hid (Cs.zOf o = z) := ⟨_, rfl⟩
  obtain ⟨p, hp⟩ : ∃ p, Hid (y / 2 = p) := ⟨_, rfl⟩
  obtain ⟨q, hq⟩ : ∃ q, Hid (y % 2 = q) := ⟨_, rfl⟩
  have x8 : x < 4 := by rw [← hx.out]; show o / 64 < 4; omega
  have y8 : y < 8 := by rw [← hy.out]; exact Nat.mod_lt _ (by decide)
  have z8 : z < 8 := by rw [← hz.out]; exact Nat.mod_lt _ (by decide)
  have o8 := ob
  rw [hx.out, hy.out, hz.out]
  clear hop
  clear h hf hg hX hO
  go_enter Tryz.func25, Tryz.ntmps25
  go_wp2_with (first
    | ((with_reducible apply cgY HM); exact cgS) | ((with_reducible apply cpY HM); exact cpS; clear HM; intro w' HM) | ((with_reducible apply crY HM); exact crS) | ((with_reducible apply clY HM); exact clS; clear HM; intro w' HM)
    | (exact absurd (hh.symm.trans (by assumption : s.r.ht = true)) Bool.noConfusion)
    | (go_at_call 44; have hco := Lib.hid (Co.ok HM.out HG.out HX.out); (with_reducible refine (fetch_at hco).mono ?_); clear hco; rintro e w' ⟨rfl, hc⟩; clear HM HF HG HX; obtain ⟨X, HF, HG, HX, HM⟩ := hc.out.hid; clear hc; rw [HO.out])
    | (go_at_call 46; (with_reducible refine (parts_of o x y z p q o8 hx hy hz hp hq _).mono ?_); rintro e w' ⟨rfl, hb⟩; replace HM := Lib.hid (HM.out.call hb); clear hb)
    | (go_at_call 48; have hco := Lib.hid (Co.ok HM.out HG.out HX.out); (with_reducible refine (plain_at hT x y z p q x8 y8 z8 hp.out hq.out hco).mono ?_); clear hco; rintro e w' ⟨rfl, hc⟩; clear HM HF HG HX; obtain ⟨X, HF, HG, HX, HM⟩ := hc.out.hid; clear hc))
  go_ret
  have hco := Co.ok HM.out HG.out HX.out
  exact ⟨rfl, Lib.hid (hco.less (by omega))⟩
set_option maxRecDepth 100000 in
theorem step_at {W0 w : World} {c b n : Nat} {s : Cs} {l : Blocks} (hT : Hid (Tabs W0)) (h : Hid (Co W0 w c b s l (n + 6))) :
    Calls Tryz.prog 25 #[.pointer (some ⟨c, 0, none⟩)] w fun e w' => e = .returned (.int .i64 ((s.stepC : Nat) : Int)) ∧ Hid (Co W0 w' c b (s.step) l n) := by
  cases hh : s.r.ht
  · obtain ⟨o, ho⟩ : ∃ o, Hid (s.begun.nextV = o) := ⟨_, rfl⟩
    obtain ⟨e1, e2⟩ := Cs.step_eq s o ho.out hh
    rw [← Cs.begun_fetch] at e1 e2
    rw [e1, e2]
    by_cases h1 : o = 221
    · obtain ⟨e3, e4⟩ := Cs.do_prefix s.begun.fetch o (.inl h1)
      rw [e3, e4]; exact step_pre_221 hh o ho h1 h
    by_cases h2 : o = 253
    · obtain ⟨e3, e4⟩ := Cs.do_prefix s.begun.fetch o (.inr h2)
      rw [e3, e4]; exact step_pre_253 hh o ho h2 h
    by_cases h3 : o = 237
    · subst h3
      obtain ⟨e3, e4⟩ := Cs.do_rare s.begun.fetch
      rw [e3, e4]; exact step_ed hh hT 237 ho rfl h
    by_cases h4 : o = 203
    · subst h4
      have e3 : s.begun.fetch.perform 203 = s.begun.fetch.onBits := (if_neg (by decide)).trans ((if_neg (by decide)).trans ((if_neg (by decide)).trans (if_pos rfl)))
      have e4 : s.begun.fetch.performC 203 = s.begun.fetch.onBitsC := (if_neg (by decide)).trans ((if_neg (by decide)).trans ((if_neg (by decide)).trans (if_pos rfl)))
      rw [e3, e4]; exact step_cb hh 203 ho rfl h
    obtain ⟨e3, e4⟩ := Cs.do_plain s.begun.fetch o ⟨h1, h2, h3, h4⟩
    rw [e3, e4]; exact step_plain hh hT o ho ⟨h1, h2, h3, h4⟩ h
  · obtain ⟨e1, e2⟩ := Cs.step_halted s hh
    rw [e1, e2]; exact step_halt hh h
end Go.Proofs.YtljjgakfnajifaaGreatDoor
