import Derived.Test.YtljjgakfnajifaaGreatDoorZCpuB1
import Derived.Deep.Cut
import Derived.Deep.RegionHeld3
import Derived.Deep.CutRange
namespace Go.Proofs.YtljjgakfnajifaaGreatDoor
open Go.RowKit
set_option maxRecDepth 100000 in
set_option maxHeartbeats 400000 in
theorem wake_at {W0 w : World} {c b n : Nat} {s : Cs} {l : Blocks} (h : Hid (Co W0 w c b s l (n))) :
    Calls Tryz.prog 49 #[.pointer (some ⟨c, 0, none⟩)] w fun e w' => e = .returned (.tuple #[]) ∧ Hid (Co W0 w' c b (s.wake) l n) := by
  obtain ⟨hf, hg, X, hX, hO⟩ := h.out.out
  have HF := Lib.hid hf
  have HF0 := Lib.hid hf
  have HG := Lib.hid hg
  have HX := Lib.hid hX
  have HM := Lib.hid hO
  clear h hf hg hX hO
  go_enter Tryz.func49, Tryz.ntmps49
  go_wp2_with (first
    | ((with_reducible apply cgY HM); exact cgS) | ((with_reducible apply cpY HM); exact cpS; clear HM; intro w' HM) | ((with_reducible apply crY HM); exact crS) | ((with_reducible apply clY HM); exact clS; clear HM; intro w' HM)
    | (go_at_call 43; have hco := Lib.hid (Co.ok HM.out HG.out HX.out); (with_reducible refine (ctick_at hco).mono ?_); clear hco; rintro e w' ⟨rfl, hc⟩; clear HM HF HG HX; obtain ⟨X, HF, HG, HX, HM⟩ := hc.out.hid; clear hc))
  go_end0
  have hco := Co.ok HM.out HG.out HX.out
  exact ⟨rfl, Lib.hid hco⟩
theorem join_255 (v a : Nat) (hv : v < 256) (ha : Hid (v * 256 + 255 = a)) (w : World) : Calls Tryz.prog 96 #[.int .u8 (v : Int), .int .u8 255] w fun e w' => e = .returned (.int .u16 (a : Int)) ∧ w = w' := join_at v 255 a hv (by decide) ha w
theorem begin_56 {W0 w : World} {c b n : Nat} {s : Cs} {l : Blocks} (h : Hid (Co W0 w c b s l (n + 2))) : Calls Tryz.prog 50 #[.pointer (some ⟨c, 0, none⟩), .int .u16 56] w fun e w' => e = .returned (.tuple #[]) ∧ Hid (Co W0 w' c b (s.start 56) l n) := begin_at 56 (by decide) h
theorem begin_102 {W0 w : World} {c b n : Nat} {s : Cs} {l : Blocks} (h : Hid (Co W0 w c b s l (n + 2))) : Calls Tryz.prog 50 #[.pointer (some ⟨c, 0, none⟩), .int .u16 102] w fun e w' => e = .returned (.tuple #[]) ∧ Hid (Co W0 w' c b (s.start 102) l n) := begin_at 102 (by decide) h
set_option maxRecDepth 100000 in
set_option maxHeartbeats 400000 in
theorem line_2 {W0 w : World} {c b n : Nat} {s : Cs} {l : Blocks} (hi : s.r.im = 2) (h : Hid (Co W0 w c b s l (n + 4))) :
    Calls Tryz.prog 51 #[.pointer (some ⟨c, 0, none⟩)] w fun e w' => e = .returned (.int .i64 19) ∧ Hid (Co W0 w' c b (((s.push s.r.pc).num (s.r.i * 256 + 255)).goTo ((s.push s.r.pc).numV (s.r.i * 256 + 255))) l n) := by
  obtain ⟨hf, hg, X, hX, hO⟩ := h.out.out
  have HF := Lib.hid hf
  have HF0 := Lib.hid hf
  have HG := Lib.hid hg
  have HX := Lib.hid hX
  have HM := Lib.hid hO
  have i2 : ((s.r.im : Int) != 2) = false := by rw [hi]; rfl
  have p1 : s.r.pc < 65536 := hf.r.pc
  obtain ⟨v, hv⟩ : ∃ v, Hid (s.r.i = v) := ⟨_, rfl⟩
  have v1 : v < 256 := by rw [← hv.out]; exact hf.r.i
  have vi : (s.push s.r.pc).r.i = v := by rw [← hv.out]; unfold Cs.push; generalize dn1 (dn1 s.r.sp) = q; generalize dn1 s.r.sp = p; rfl
  have VI := Lib.hid vi
  obtain ⟨a, ha⟩ : ∃ a, Hid (v * 256 + 255 = a) := ⟨_, rfl⟩
  have a1 : a < 65536 := by rw [← ha.out]; omega
  rw [hv.out, ha.out]
  clear vi
  clear hi h hf hg hX hO
  go_enter Tryz.func51, Tryz.ntmps51
  go_upto_region 5 with (first
    | ((with_reducible apply cgY HM); exact cgS) | ((with_reducible apply cpY HM); exact cpS; clear HM; intro w' HM) | ((with_reducible apply crY HM); exact crS) | ((with_reducible apply clY HM); exact clS; clear HM; intro w' HM)
    | (go_at_call 93; have hco := Lib.hid (Co.ok HM.out HG.out HX.out); (with_reducible refine (push_at _ p1 hco).mono ?_); clear hco; rintro e w' ⟨rfl, hc⟩; clear HM HF HG HX; obtain ⟨X, HF, HG, HX, HM⟩ := hc.out.hid; clear hc))
  have n1 : (s.push s.r.pc).numV a < 65536 := Cs.numV_lt HF.out _
  go_wp2_with (first
    | ((with_reducible apply cgY HM); exact cgS) | ((with_reducible apply cpY HM); exact cpS; clear HM; intro w' HM) | ((with_reducible apply crY HM); exact crS) | ((with_reducible apply clY HM); exact clS; clear HM; intro w' HM)
    | (go_at_call 96; rw [VI.out]; (with_reducible refine (join_255 v a v1 ha _).mono ?_); rintro e w' ⟨rfl, rfl⟩)
    | (go_at_call 95; have hco := Lib.hid (Co.ok HM.out HG.out HX.out); (with_reducible refine (number_at _ a1 hco).mono ?_); clear hco; rintro e w' ⟨rfl, hc⟩; clear HM HF HG HX; obtain ⟨X, HF, HG, HX, HM⟩ := hc.out.hid; clear hc)
    | (go_at_call 94; have hco := Lib.hid (Co.ok HM.out HG.out HX.out); (with_reducible refine (goTo_at _ n1 hco).mono ?_); clear hco; rintro e w' ⟨rfl, hc⟩; clear HM HF HG HX; obtain ⟨X, HF, HG, HX, HM⟩ := hc.out.hid; clear hc))
  go_ret
  have hco := Co.ok HM.out HG.out HX.out
  exact ⟨rfl, Lib.hid (hco.less (by omega))⟩
set_option maxRecDepth 100000 in
set_option maxHeartbeats 400000 in
theorem line_no {W0 w : World} {c b n : Nat} {s : Cs} {l : Blocks} (hi : ¬ s.r.im = 2) (h : Hid (Co W0 w c b s l (n + 4))) :
    Calls Tryz.prog 51 #[.pointer (some ⟨c, 0, none⟩)] w fun e w' => e = .returned (.int .i64 13) ∧ Hid (Co W0 w' c b (s.start 56) l n) := by
  obtain ⟨hf, hg, X, hX, hO⟩ := h.out.out
  have HF := Lib.hid hf
  have HF0 := Lib.hid hf
  have HG := Lib.hid hg
  have HX := Lib.hid hX
  have HM := Lib.hid hO
  have i2 : ((s.r.im : Int) != 2) = true := by simp; omega
  clear hi h hf hg hX hO
  go_enter Tryz.func51, Tryz.ntmps51
  go_wp2_with (first
    | ((with_reducible apply cgY HM); exact cgS) | ((with_reducible apply cpY HM); exact cpS; clear HM; intro w' HM) | ((with_reducible apply crY HM); exact crS) | ((with_reducible apply clY HM); exact clS; clear HM; intro w' HM)
    | (go_at_call 50; have hco := Lib.hid (Co.ok HM.out HG.out HX.out); (with_reducible refine (begin_56 hco).mono ?_); clear hco; rintro e w' ⟨rfl, hc⟩; clear HM HF HG HX; obtain ⟨X, HF, HG, HX, HM⟩ := hc.out.hid; clear hc))
  go_ret
  have hco := Co.ok HM.out HG.out HX.out
  exact ⟨rfl, Lib.hid (hco.less (by omega))⟩
set_option maxRecDepth 100000 in
theorem lineCame_at {W0 w : World} {c b n : Nat} {s : Cs} {l : Blocks} (h : Hid (Co W0 w c b s l (n + 4))) :
    Calls Tryz.prog 51 #[.pointer (some ⟨c, 0, none⟩)] w fun e w' => e = .returned (.int .i64 ((s.lineCameC : Nat) : Int)) ∧ Hid (Co W0 w' c b (s.lineCame) l n) := by
  by_cases hi : s.r.im = 2
  · have e2 : s.lineCame = ((s.push s.r.pc).num (s.r.i * 256 + 255)).goTo ((s.push s.r.pc).numV (s.r.i * 256 + 255)) := if_pos hi
    have e3 : s.lineCameC = 19 := if_pos hi
    rw [e2, e3]; exact line_2 hi h
  · have e2 : s.lineCame = s.start 56 := if_neg hi
    have e3 : s.lineCameC = 13 := if_neg hi
    rw [e2, e3]; exact line_no hi h
set_option maxRecDepth 100000 in
set_option maxHeartbeats 400000 in
theorem inter_px {W0 w : World} {c b n : Nat} {s : Cs} {l : Blocks} (pause line : Bool) (hp : ¬ s.r.px = 0) (h : Hid (Co W0 w c b s l (n + 4))) :
    Calls Tryz.prog 26 #[.pointer (some ⟨c, 0, none⟩), .bool pause, .bool line] w fun e w' => e = .returned (.int .i64 0) ∧ Hid (Co W0 w' c b (s) l n) := by
  obtain ⟨hf, hg, X, hX, hO⟩ := h.out.out
  have HF := Lib.hid hf
  have HF0 := Lib.hid hf
  have HG := Lib.hid hg
  have HX := Lib.hid hX
  have HM := Lib.hid hO
  have p0 : ((s.r.px : Int) != 0) = true := by simp; omega
  clear h hf hg hX hO
  go_enter Tryz.func26, Tryz.ntmps26
  go_wp2_with (first
    | ((with_reducible apply cgY HM); exact cgS) | ((with_reducible apply cpY HM); exact cpS; clear HM; intro w' HM) | ((with_reducible apply crY HM); exact crS) | ((with_reducible apply clY HM); exact clS; clear HM; intro w' HM))
  go_ret
  have hco := Co.ok HM.out HG.out HX.out
  exact ⟨rfl, Lib.hid (hco.less (by omega))⟩
set_option maxRecDepth 100000 in
set_option maxHeartbeats 400000 in
theorem inter_pause {W0 w : World} {c b n : Nat} {s : Cs} {l : Blocks} (line : Bool) (hp : s.r.px = 0) (h : Hid (Co W0 w c b s l (n + 4))) :
    Calls Tryz.prog 26 #[.pointer (some ⟨c, 0, none⟩), .bool true, .bool line] w fun e w' => e = .returned (.int .i64 11) ∧ Hid (Co W0 w' c b ((s.setQ1 false).wake.start 102) l n) := by
  obtain ⟨hf, hg, X, hX, hO⟩ := h.out.out
  have HF := Lib.hid hf
  have HF0 := Lib.hid hf
  have HG := Lib.hid hg
  have HX := Lib.hid hX
  have HM := Lib.hid hO
  have p0 : ((s.r.px : Int) != 0) = false := by simp; omega
  clear h hf hg hX hO
  go_enter Tryz.func26, Tryz.ntmps26
  go_wp2_with (first
    | ((with_reducible apply cgY HM); exact cgS) | ((with_reducible apply cpY HM); exact cpS; clear HM; intro w' HM) | ((with_reducible apply crY HM); exact crS) | ((with_reducible apply clY HM); exact clS; clear HM; intro w' HM)
    | (go_at_call 49; have hco := Lib.hid (Co.ok HM.out HG.out HX.out); (with_reducible refine (wake_at hco).mono ?_); clear hco; rintro e w' ⟨rfl, hc⟩; clear HM HF HG HX; obtain ⟨X, HF, HG, HX, HM⟩ := hc.out.hid; clear hc)
    | (go_at_call 50; have hco := Lib.hid (Co.ok HM.out HG.out HX.out); (with_reducible refine (begin_102 hco).mono ?_); clear hco; rintro e w' ⟨rfl, hc⟩; clear HM HF HG HX; obtain ⟨X, HF, HG, HX, HM⟩ := hc.out.hid; clear hc))
  go_ret
  have hco := Co.ok HM.out HG.out HX.out
  exact ⟨rfl, Lib.hid (hco.less (by omega))⟩
set_option maxRecDepth 100000 in
set_option maxHeartbeats 400000 in
theorem inter_line {W0 w : World} {c b n : Nat} {s : Cs} {l : Blocks} (hp : s.r.px = 0) (h1 : s.r.q1 = true) (h2 : s.r.dl = false) (h : Hid (Co W0 w c b s l (n + 4))) :
    Calls Tryz.prog 26 #[.pointer (some ⟨c, 0, none⟩), .bool false, .bool true] w fun e w' => e = .returned (.int .i64 ((((s.setQ1 false).setQ2 false).wake.lineCameC : Nat) : Int)) ∧ Hid (Co W0 w' c b (((s.setQ1 false).setQ2 false).wake.lineCame) l n) := by
  obtain ⟨hf, hg, X, hX, hO⟩ := h.out.out
  have HF := Lib.hid hf
  have HF0 := Lib.hid hf
  have HG := Lib.hid hg
  have HX := Lib.hid hX
  have HM := Lib.hid hO
  have p0 : ((s.r.px : Int) != 0) = false := by simp; omega
  clear h hf hg hX hO
  go_enter Tryz.func26, Tryz.ntmps26
  go_wp2_with (first
    | ((with_reducible apply cgY HM); exact cgS) | ((with_reducible apply cpY HM); exact cpS; clear HM; intro w' HM) | ((with_reducible apply crY HM); exact crS) | ((with_reducible apply clY HM); exact clS; clear HM; intro w' HM)
    | (go_at_call 49; have hco := Lib.hid (Co.ok HM.out HG.out HX.out); (with_reducible refine (wake_at hco).mono ?_); clear hco; rintro e w' ⟨rfl, hc⟩; clear HM HF HG HX; obtain ⟨X, HF, HG, HX, HM⟩ := hc.out.hid; clear hc)
    | (go_at_call 51; have hco := Lib.hid (Co.ok HM.out HG.out HX.out); (with_reducible refine (lineCame_at hco).mono ?_); clear hco; rintro e w' ⟨rfl, hc⟩; clear HM HF HG HX; obtain ⟨X, HF, HG, HX, HM⟩ := hc.out.hid; clear hc))
  go_ret
  have hco := Co.ok HM.out HG.out HX.out
  exact ⟨rfl, Lib.hid (hco.less (by omega))⟩
set_option maxRecDepth 100000 in
set_option maxHeartbeats 400000 in
theorem inter_no1 {W0 w : World} {c b n : Nat} {s : Cs} {l : Blocks} (hp : s.r.px = 0) (h : Hid (Co W0 w c b s l (n + 4))) :
    Calls Tryz.prog 26 #[.pointer (some ⟨c, 0, none⟩), .bool false, .bool false] w fun e w' => e = .returned (.int .i64 0) ∧ Hid (Co W0 w' c b (s) l n) := by
  obtain ⟨hf, hg, X, hX, hO⟩ := h.out.out
  have HF := Lib.hid hf
  have HF0 := Lib.hid hf
  have HG := Lib.hid hg
  have HX := Lib.hid hX
  have HM := Lib.hid hO
  have p0 : ((s.r.px : Int) != 0) = false := by simp; omega
  clear h hf hg hX hO
  go_enter Tryz.func26, Tryz.ntmps26
  go_wp2_with (first
    | ((with_reducible apply cgY HM); exact cgS) | ((with_reducible apply cpY HM); exact cpS; clear HM; intro w' HM) | ((with_reducible apply crY HM); exact crS) | ((with_reducible apply clY HM); exact clS; clear HM; intro w' HM))
  go_ret
  have hco := Co.ok HM.out HG.out HX.out
  exact ⟨rfl, Lib.hid (hco.less (by omega))⟩
set_option maxRecDepth 100000 in
set_option maxHeartbeats 400000 in
theorem inter_no2 {W0 w : World} {c b n : Nat} {s : Cs} {l : Blocks} (hp : s.r.px = 0) (h1 : s.r.q1 = false) (h : Hid (Co W0 w c b s l (n + 4))) :
    Calls Tryz.prog 26 #[.pointer (some ⟨c, 0, none⟩), .bool false, .bool true] w fun e w' => e = .returned (.int .i64 0) ∧ Hid (Co W0 w' c b (s) l n) := by
  obtain ⟨hf, hg, X, hX, hO⟩ := h.out.out
  have HF := Lib.hid hf
  have HF0 := Lib.hid hf
  have HG := Lib.hid hg
  have HX := Lib.hid hX
  have HM := Lib.hid hO
  have p0 : ((s.r.px : Int) != 0) = false := by simp; omega
  clear h hf hg hX hO
  go_enter Tryz.func26, Tryz.ntmps26
  go_wp2_with (first
    | ((with_reducible apply cgY HM); exact cgS) | ((with_reducible apply cpY HM); exact cpS; clear HM; intro w' HM) | ((with_reducible apply crY HM); exact crS) | ((with_reducible apply clY HM); exact clS; clear HM; intro w' HM))
  go_ret
  have hco := Co.ok HM.out HG.out HX.out
  exact ⟨rfl, Lib.hid (hco.less (by omega))⟩
set_option maxRecDepth 100000 in
set_option maxHeartbeats 400000 in
theorem inter_no3 {W0 w : World} {c b n : Nat} {s : Cs} {l : Blocks} (hp : s.r.px = 0) (h1 : s.r.q1 = true) (h2 : s.r.dl = true) (h : Hid (Co W0 w c b s l (n + 4))) :
    Calls Tryz.prog 26 #[.pointer (some ⟨c, 0, none⟩), .bool false, .bool true] w fun e w' => e = .returned (.int .i64 0) ∧ Hid (Co W0 w' c b (s) l n) := by
  obtain ⟨hf, hg, X, hX, hO⟩ := h.out.out
  have HF := Lib.hid hf
  have HF0 := Lib.hid hf
  have HG := Lib.hid hg
  have HX := Lib.hid hX
  have HM := Lib.hid hO
  have p0 : ((s.r.px : Int) != 0) = false := by simp; omega
  clear h hf hg hX hO
  go_enter Tryz.func26, Tryz.ntmps26
  go_wp2_with (first
    | ((with_reducible apply cgY HM); exact cgS) | ((with_reducible apply cpY HM); exact cpS; clear HM; intro w' HM) | ((with_reducible apply crY HM); exact crS) | ((with_reducible apply clY HM); exact clS; clear HM; intro w' HM))
  go_ret
  have hco := Co.ok HM.out HG.out HX.out
  exact ⟨rfl, Lib.hid (hco.less (by omega))⟩
set_option maxRecDepth 100000 in
theorem interrupt_at {W0 w : World} {c b n : Nat} {s : Cs} {l : Blocks} (pause line : Bool) (h : Hid (Co W0 w c b s l (n + 4))) :
    Calls Tryz.prog 26 #[.pointer (some ⟨c, 0, none⟩), .bool pause, .bool line] w fun e w' => e = .returned (.int .i64 ((s.interC pause line : Nat) : Int)) ∧ Hid (Co W0 w' c b (s.inter pause line) l n) := by
  unfold Cs.inter Cs.interC
  by_cases hp : s.r.px = 0
  · have e0 : Nat.beq s.r.px 0 = true := by rw [hp]; rfl
    cases pause
    · cases line
      · have e : s.takes false false = false := by unfold Cs.takes; rw [e0]; rfl
        rw [e]; exact inter_no1 hp h
      · cases h1 : s.r.q1
        · have e : s.takes false true = false := by unfold Cs.takes; rw [e0, h1]; rfl
          rw [e]; exact inter_no2 hp h1 h
        · cases h2 : s.r.dl
          · have e : s.takes false true = true := by unfold Cs.takes; rw [e0, h1, h2]; rfl
            rw [e]; exact inter_line hp h1 h2 h
          · have e : s.takes false true = false := by unfold Cs.takes; rw [e0, h1, h2]; rfl
            rw [e]; exact inter_no3 hp h1 h2 h
    · have e : s.takes true line = true := by unfold Cs.takes; rw [e0]; rfl
      rw [e]; exact inter_pause line hp h
  · have e0 : Nat.beq s.r.px 0 = false := by rw [← Bool.not_eq_true, Nat.beq_eq]; exact hp
    have e : s.takes pause line = false := by unfold Cs.takes; rw [e0]; rfl
    rw [e]; exact inter_px pause line hp h
end Go.Proofs.YtljjgakfnajifaaGreatDoor
