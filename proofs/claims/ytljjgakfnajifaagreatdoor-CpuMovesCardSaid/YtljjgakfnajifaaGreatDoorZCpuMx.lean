import Derived.Test.YtljjgakfnajifaaGreatDoorZCpuPorts
import Derived.Test.YtljjgakfnajifaaGreatDoorZCpuSt
import Derived.Deep.Cut
import Derived.Deep.CutRange
namespace Go.Proofs.YtljjgakfnajifaaGreatDoor
open Go.RowKit
set_option maxRecDepth 100000 in
set_option maxHeartbeats 400000 in
theorem mixed_0 {W0 w : World} {c b n : Nat} {s : Cs} {l : Blocks} (h : Hid (Co W0 w c b s l (n + 4))) :
    Calls Tryz.prog 171 #[.pointer (some ⟨c, 0, none⟩), .int .i64 0] w fun e w' => e = .returned (.int .i64 10) ∧ Hid (Co W0 w' c b (s.jumpTo true) l n) := by
  obtain ⟨hf, hg, X, hX, hO⟩ := h.out.out
  have HF := Lib.hid hf
  have HF0 := Lib.hid hf
  have HG := Lib.hid hg
  have HX := Lib.hid hX
  have HM := Lib.hid hO
  clear h hf hg hX hO
  go_enter Tryz.func171, Tryz.ntmps171
  go_wp2_with (first
    | ((with_reducible apply cgY HM); exact cgS) | ((with_reducible apply cpY HM); exact cpS; clear HM; intro w' HM) | ((with_reducible apply crY HM); exact crS) | ((with_reducible apply clY HM); exact clS; clear HM; intro w' HM)
    | (go_at_call 170; have hco := Lib.hid (Co.ok HM.out HG.out HX.out); (with_reducible refine (jump_true hco).mono ?_); clear hco; rintro e w' ⟨rfl, hc⟩; clear HM HF HG HX; obtain ⟨X, HF, HG, HX, HM⟩ := hc.out.hid; clear hc))
  go_ret
  have hco := Co.ok HM.out HG.out HX.out
  exact ⟨rfl, Lib.hid (hco.less (by omega))⟩
set_option maxRecDepth 100000 in
set_option maxHeartbeats 400000 in
theorem mixed_2 {W0 w : World} {c b n : Nat} {s : Cs} {l : Blocks} (h : Hid (Co W0 w c b s l (n + 4))) :
    Calls Tryz.prog 171 #[.pointer (some ⟨c, 0, none⟩), .int .i64 2] w fun e w' => e = .returned (.int .i64 11) ∧ Hid (Co W0 w' c b (s.outNext) l n) := by
  obtain ⟨hf, hg, X, hX, hO⟩ := h.out.out
  have HF := Lib.hid hf
  have HF0 := Lib.hid hf
  have HG := Lib.hid hg
  have HX := Lib.hid hX
  have HM := Lib.hid hO
  clear h hf hg hX hO
  go_enter Tryz.func171, Tryz.ntmps171
  go_wp2_with (first
    | ((with_reducible apply cgY HM); exact cgS) | ((with_reducible apply cpY HM); exact cpS; clear HM; intro w' HM) | ((with_reducible apply crY HM); exact crS) | ((with_reducible apply clY HM); exact clS; clear HM; intro w' HM)
    | (go_at_call 221; have hco := Lib.hid (Co.ok HM.out HG.out HX.out); (with_reducible refine (outNext_at hco).mono ?_); clear hco; rintro e w' ⟨rfl, hc⟩; clear HM HF HG HX; obtain ⟨X, HF, HG, HX, HM⟩ := hc.out.hid; clear hc))
  go_ret
  have hco := Co.ok HM.out HG.out HX.out
  exact ⟨rfl, Lib.hid (hco.less (by omega))⟩
set_option maxRecDepth 100000 in
set_option maxHeartbeats 400000 in
theorem mixed_3 {W0 w : World} {c b n : Nat} {s : Cs} {l : Blocks} (h : Hid (Co W0 w c b s l (n + 4))) :
    Calls Tryz.prog 171 #[.pointer (some ⟨c, 0, none⟩), .int .i64 3] w fun e w' => e = .returned (.int .i64 11) ∧ Hid (Co W0 w' c b (s.inNext) l n) := by
  obtain ⟨hf, hg, X, hX, hO⟩ := h.out.out
  have HF := Lib.hid hf
  have HF0 := Lib.hid hf
  have HG := Lib.hid hg
  have HX := Lib.hid hX
  have HM := Lib.hid hO
  clear h hf hg hX hO
  go_enter Tryz.func171, Tryz.ntmps171
  go_wp2_with (first
    | ((with_reducible apply cgY HM); exact cgS) | ((with_reducible apply cpY HM); exact cpS; clear HM; intro w' HM) | ((with_reducible apply crY HM); exact crS) | ((with_reducible apply clY HM); exact clS; clear HM; intro w' HM)
    | (go_at_call 222; have hco := Lib.hid (Co.ok HM.out HG.out HX.out); (with_reducible refine (inNext_at hco).mono ?_); clear hco; rintro e w' ⟨rfl, hc⟩; clear HM HF HG HX; obtain ⟨X, HF, HG, HX, HM⟩ := hc.out.hid; clear hc))
  go_ret
  have hco := Co.ok HM.out HG.out HX.out
  exact ⟨rfl, Lib.hid (hco.less (by omega))⟩
set_option maxRecDepth 100000 in
set_option maxHeartbeats 400000 in
theorem mixed_4 {W0 w : World} {c b n : Nat} {s : Cs} {l : Blocks} (h : Hid (Co W0 w c b s l (n + 4))) :
    Calls Tryz.prog 171 #[.pointer (some ⟨c, 0, none⟩), .int .i64 4] w fun e w' => e = .returned (.int .i64 19) ∧ Hid (Co W0 w' c b (s.swapTop) l n) := by
  obtain ⟨hf, hg, X, hX, hO⟩ := h.out.out
  have HF := Lib.hid hf
  have HF0 := Lib.hid hf
  have HG := Lib.hid hg
  have HX := Lib.hid hX
  have HM := Lib.hid hO
  clear h hf hg hX hO
  go_enter Tryz.func171, Tryz.ntmps171
  go_wp2_with (first
    | ((with_reducible apply cgY HM); exact cgS) | ((with_reducible apply cpY HM); exact cpS; clear HM; intro w' HM) | ((with_reducible apply crY HM); exact crS) | ((with_reducible apply clY HM); exact clS; clear HM; intro w' HM)
    | (go_at_call 223; have hco := Lib.hid (Co.ok HM.out HG.out HX.out); (with_reducible refine (swapTop_at hco).mono ?_); clear hco; rintro e w' ⟨rfl, hc⟩; clear HM HF HG HX; obtain ⟨X, HF, HG, HX, HM⟩ := hc.out.hid; clear hc))
  go_ret
  have hco := Co.ok HM.out HG.out HX.out
  exact ⟨rfl, Lib.hid (hco.less (by omega))⟩
set_option maxRecDepth 100000 in
set_option maxHeartbeats 400000 in
theorem mixed_6 {W0 w : World} {c b n : Nat} {s : Cs} {l : Blocks} (h : Hid (Co W0 w c b s l (n + 4))) :
    Calls Tryz.prog 171 #[.pointer (some ⟨c, 0, none⟩), .int .i64 6] w fun e w' => e = .returned (.int .i64 4) ∧ Hid (Co W0 w' c b ((s.setQ1 false).setQ2 false) l n) := by
  obtain ⟨hf, hg, X, hX, hO⟩ := h.out.out
  have HF := Lib.hid hf
  have HF0 := Lib.hid hf
  have HG := Lib.hid hg
  have HX := Lib.hid hX
  have HM := Lib.hid hO
  clear h hf hg hX hO
  go_enter Tryz.func171, Tryz.ntmps171
  go_wp2_with (first
    | ((with_reducible apply cgY HM); exact cgS) | ((with_reducible apply cpY HM); exact cpS; clear HM; intro w' HM) | ((with_reducible apply crY HM); exact crS) | ((with_reducible apply clY HM); exact clS; clear HM; intro w' HM))
  go_ret
  have hco := Co.ok HM.out HG.out HX.out
  exact ⟨rfl, Lib.hid (hco.less (by omega))⟩
set_option maxRecDepth 100000 in
set_option maxHeartbeats 400000 in
theorem mixed_7 {W0 w : World} {c b n : Nat} {s : Cs} {l : Blocks} (h : Hid (Co W0 w c b s l (n + 4))) :
    Calls Tryz.prog 171 #[.pointer (some ⟨c, 0, none⟩), .int .i64 7] w fun e w' => e = .returned (.int .i64 4) ∧ Hid (Co W0 w' c b (((s.setQ1 true).setQ2 true).setDL true) l n) := by
  obtain ⟨hf, hg, X, hX, hO⟩ := h.out.out
  have HF := Lib.hid hf
  have HF0 := Lib.hid hf
  have HG := Lib.hid hg
  have HX := Lib.hid hX
  have HM := Lib.hid hO
  clear h hf hg hX hO
  go_enter Tryz.func171, Tryz.ntmps171
  go_wp2_with (first
    | ((with_reducible apply cgY HM); exact cgS) | ((with_reducible apply cpY HM); exact cpS; clear HM; intro w' HM) | ((with_reducible apply crY HM); exact crS) | ((with_reducible apply clY HM); exact clS; clear HM; intro w' HM))
  go_ret
  have hco := Co.ok HM.out HG.out HX.out
  exact ⟨rfl, Lib.hid (hco.less (by omega))⟩
set_option maxRecDepth 100000 in
set_option maxHeartbeats 400000 in
theorem lastOdd_0 {W0 w : World} {c b n : Nat} {s : Cs} {l : Blocks} (h : Hid (Co W0 w c b s l (n + 2))) :
    Calls Tryz.prog 169 #[.pointer (some ⟨c, 0, none⟩), .int .i64 0] w fun e w' => e = .returned (.int .i64 10) ∧ Hid (Co W0 w' c b (s.back) l n) := by
  obtain ⟨hf, hg, X, hX, hO⟩ := h.out.out
  have HF := Lib.hid hf
  have HF0 := Lib.hid hf
  have HG := Lib.hid hg
  have HX := Lib.hid hX
  have HM := Lib.hid hO
  clear h hf hg hX hO
  go_enter Tryz.func169, Tryz.ntmps169
  go_wp2_with (first
    | ((with_reducible apply cgY HM); exact cgS) | ((with_reducible apply cpY HM); exact cpS; clear HM; intro w' HM) | ((with_reducible apply crY HM); exact crS) | ((with_reducible apply clY HM); exact clS; clear HM; intro w' HM)
    | (go_at_call 137; have hco := Lib.hid (Co.ok HM.out HG.out HX.out); (with_reducible refine (comeBack_at hco).mono ?_); clear hco; rintro e w' ⟨rfl, hc⟩; clear HM HF HG HX; obtain ⟨X, HF, HG, HX, HM⟩ := hc.out.hid; clear hc))
  go_ret
  have hco := Co.ok HM.out HG.out HX.out
  exact ⟨rfl, Lib.hid (hco.less (by omega))⟩
set_option maxRecDepth 100000 in
set_option maxHeartbeats 400000 in
theorem lastOdd_1 {W0 w : World} {c b n : Nat} {s : Cs} {l : Blocks} (h : Hid (Co W0 w c b s l (n + 2))) :
    Calls Tryz.prog 169 #[.pointer (some ⟨c, 0, none⟩), .int .i64 1] w fun e w' => e = .returned (.int .i64 4) ∧ Hid (Co W0 w' c b (s.setR (s.r.swap true)) l n) := by
  obtain ⟨hf, hg, X, hX, hO⟩ := h.out.out
  have HF := Lib.hid hf
  have HF0 := Lib.hid hf
  have HG := Lib.hid hg
  have HX := Lib.hid hX
  have HM := Lib.hid hO
  have hR : (s.r.swap true).Fits := Rg.swap_fits hf.r _
  clear h hf hg hX hO
  go_enter Tryz.func169, Tryz.ntmps169
  go_wp2_with (first
    | ((with_reducible apply cgY HM); exact cgS) | ((with_reducible apply cpY HM); exact cpS; clear HM; intro w' HM) | ((with_reducible apply crY HM); exact crS) | ((with_reducible apply clY HM); exact clS; clear HM; intro w' HM)
    | (go_at_call 210; (with_reducible refine (swap_true _ _).mono ?_); rintro e w' ⟨rfl, hb⟩; replace HM := Lib.hid (HM.out.call hb); clear hb))
  go_ret
  have hco := Co.ok HM.out HG.out HX.out
  exact ⟨rfl, Lib.hid (hco.less (by omega))⟩
set_option maxRecDepth 100000 in
set_option maxHeartbeats 400000 in
theorem lastOdd_2 {W0 w : World} {c b n : Nat} {s : Cs} {l : Blocks} (h : Hid (Co W0 w c b s l (n + 2))) :
    Calls Tryz.prog 169 #[.pointer (some ⟨c, 0, none⟩), .int .i64 2] w fun e w' => e = .returned (.int .i64 4) ∧ Hid (Co W0 w' c b (s.setPC (s.pair 2)) l n) := by
  obtain ⟨hf, hg, X, hX, hO⟩ := h.out.out
  have HF := Lib.hid hf
  have HF0 := Lib.hid hf
  have HG := Lib.hid hg
  have HX := Lib.hid hX
  have HM := Lib.hid hO
  have p1 : s.pair 2 < 65536 := Cs.pair_lt hf _
  clear h hf hg hX hO
  go_enter Tryz.func169, Tryz.ntmps169
  go_wp2_with (first
    | ((with_reducible apply cgY HM); exact cgS) | ((with_reducible apply cpY HM); exact cpS; clear HM; intro w' HM) | ((with_reducible apply crY HM); exact crS) | ((with_reducible apply clY HM); exact clS; clear HM; intro w' HM)
    | (go_at_call 83; (with_reducible refine (cpair_q .z HM HF.out _).mono ?_); rintro e w' ⟨rfl, hb⟩; replace HM := Lib.hid (HM.out.call hb); clear hb))
  go_ret
  have hco := Co.ok HM.out HG.out HX.out
  exact ⟨rfl, Lib.hid (hco.less (by omega))⟩
set_option maxRecDepth 100000 in
set_option maxHeartbeats 400000 in
theorem lastOdd_3 {W0 w : World} {c b n : Nat} {s : Cs} {l : Blocks} (h : Hid (Co W0 w c b s l (n + 2))) :
    Calls Tryz.prog 169 #[.pointer (some ⟨c, 0, none⟩), .int .i64 3] w fun e w' => e = .returned (.int .i64 6) ∧ Hid (Co W0 w' c b (s.setSP (s.pair 2)) l n) := by
  obtain ⟨hf, hg, X, hX, hO⟩ := h.out.out
  have HF := Lib.hid hf
  have HF0 := Lib.hid hf
  have HG := Lib.hid hg
  have HX := Lib.hid hX
  have HM := Lib.hid hO
  have p1 : s.pair 2 < 65536 := Cs.pair_lt hf _
  clear h hf hg hX hO
  go_enter Tryz.func169, Tryz.ntmps169
  go_wp2_with (first
    | ((with_reducible apply cgY HM); exact cgS) | ((with_reducible apply cpY HM); exact cpS; clear HM; intro w' HM) | ((with_reducible apply crY HM); exact crS) | ((with_reducible apply clY HM); exact clS; clear HM; intro w' HM)
    | (go_at_call 83; (with_reducible refine (cpair_q .z HM HF.out _).mono ?_); rintro e w' ⟨rfl, hb⟩; replace HM := Lib.hid (HM.out.call hb); clear hb))
  go_ret
  have hco := Co.ok HM.out HG.out HX.out
  exact ⟨rfl, Lib.hid (hco.less (by omega))⟩
end Go.Proofs.YtljjgakfnajifaaGreatDoor
namespace Go.Proofs.YtljjgakfnajifaaGreatDoor
open Go.RowKit
set_option maxRecDepth 100000 in
set_option maxHeartbeats 400000 in
theorem mixed_5 {W0 w : World} {c b n : Nat} {s : Cs} {l : Blocks} (y : Nat) (hy : y = 5) (h : Hid (Co W0 w c b s l (n + 4))) :
    Calls Tryz.prog 171 #[.pointer (some ⟨c, 0, none⟩), .int .i64 (y : Int)] w fun e w' => e = .returned (.int .i64 4) ∧ Hid (Co W0 w' c b (s.swapDE) l n) := by
  obtain ⟨hf, hg, X, hX, hO⟩ := h.out.out
  have HF := Lib.hid hf
  have HF0 := Lib.hid hf
  have HG := Lib.hid hg
  have HX := Lib.hid hX
  have HM := Lib.hid hO
  have y0 : ((y : Int) == 0) = false := by subst hy; rfl
  have y1 : ((y : Int) == 1) = false := by subst hy; rfl
  have y2 : ((y : Int) == 2) = false := by subst hy; rfl
  have y3 : ((y : Int) == 3) = false := by subst hy; rfl
  have y4 : ((y : Int) == 4) = false := by subst hy; rfl
  have y5 : ((y : Int) == 5) = true := by subst hy; rfl
  have y6 : ((y : Int) == 6) = false := by subst hy; rfl
  have y7 : ((y : Int) == 7) = false := by subst hy; rfl
  clear hy h hf hg hX hO
  go_enter Tryz.func171, Tryz.ntmps171
  go_upto_region 12 with fail
  have c4 := HM.out.cells_at .z 4 _ rfl
  have c5 := HM.out.cells_at .z 5 _ rfl
  have c6 := HM.out.cells_at .z 6 _ rfl
  have c7 := HM.out.cells_at .z 7 _ rfl
  have fr4 := (HM.out.at_ .z).free 4
  have fr5 := (HM.out.at_ .z).free 5
  have fr6 := (HM.out.at_ .z).free 6
  have fr7 := (HM.out.at_ .z).free 7
  have HM2 := Lib.hid ((((HM.out.of_cell 4 (v := .int .u8 (s.r.h : Int)) .z).of_cell 5 (v := .int .u8 (s.r.l : Int)) .z).of_cell 6 (v := .int .u8 (s.r.d : Int)) .z).of_cell 7 (v := .int .u8 (s.r.e : Int)) .z).drew
  clear HM
  go_region
  all_goals go_wp2_with fail
  all_goals go_ret
  all_goals exact ⟨rfl, Lib.hid ((Co.made (s := s.swapDE) HM2.out HG.out HX.out ⟨{ HF.out.r with d := HF.out.r.h, e := HF.out.r.l, h := HF.out.r.d, l := HF.out.r.e }, HF.out.px, HF.out.m⟩).less (by omega))⟩
set_option maxRecDepth 100000 in
set_option maxHeartbeats 400000 in
theorem mixed_1 {W0 w : World} {c b n : Nat} {s : Cs} {l : Blocks} (y : Nat) (hy : y = 1) (h : Hid (Co W0 w c b s l (n + 4))) :
    Calls Tryz.prog 171 #[.pointer (some ⟨c, 0, none⟩), .int .i64 (y : Int)] w fun e w' => e = .returned (.int .i64 4) ∧ Hid (Co W0 w' c b (((s.setQ1 true).setQ2 true).setDL true) l n) := by
  obtain ⟨hf, hg, X, hX, hO⟩ := h.out.out
  have HF := Lib.hid hf
  have HF0 := Lib.hid hf
  have HG := Lib.hid hg
  have HX := Lib.hid hX
  have HM := Lib.hid hO
  have y0 : ((y : Int) == 0) = false := by subst hy; rfl
  have y1 : ((y : Int) == 1) = true := by subst hy; rfl
  have y2 : ((y : Int) == 2) = false := by subst hy; rfl
  have y3 : ((y : Int) == 3) = false := by subst hy; rfl
  have y4 : ((y : Int) == 4) = false := by subst hy; rfl
  have y5 : ((y : Int) == 5) = false := by subst hy; rfl
  have y6 : ((y : Int) == 6) = false := by subst hy; rfl
  have y7 : ((y : Int) == 7) = false := by subst hy; rfl
  clear hy h hf hg hX hO
  go_enter Tryz.func171, Tryz.ntmps171
  go_wp2_with (first
    | ((with_reducible apply cgY HM); exact cgS) | ((with_reducible apply cpY HM); exact cpS; clear HM; intro w' HM) | ((with_reducible apply crY HM); exact crS) | ((with_reducible apply clY HM); exact clS; clear HM; intro w' HM))
  go_ret
  have hco := Co.ok HM.out HG.out HX.out
  exact ⟨rfl, Lib.hid (hco.less (by omega))⟩
set_option maxRecDepth 100000 in
theorem mixed_at {W0 w : World} {c b n : Nat} {s : Cs} {l : Blocks} (y : Nat) (hy : y < 8) (h : Hid (Co W0 w c b s l (n + 4))) :
    Calls Tryz.prog 171 #[.pointer (some ⟨c, 0, none⟩), .int .i64 (y : Int)] w fun e w' => e = .returned (.int .i64 ((Cs.mixedC y : Nat) : Int)) ∧ Hid (Co W0 w' c b (s.mixed y) l n) := by
  by_cases h0 : y = 0
  · subst h0
    rw [show ((0 : Nat) : Int) = 0 from rfl]
    have e2 : s.mixed 0 = s.jumpTo true := if_pos (by omega)
    have e3 : Cs.mixedC 0 = 10 := if_pos (by omega)
    rw [e2, e3]; exact mixed_0 h
  by_cases h2 : y = 2
  · subst h2
    rw [show ((2 : Nat) : Int) = 2 from rfl]
    have e2 : s.mixed 2 = s.outNext := (if_neg (by omega)).trans (if_pos (by omega))
    have e3 : Cs.mixedC 2 = 11 := (if_neg (by omega)).trans (if_pos (by omega))
    rw [e2, e3]; exact mixed_2 h
  by_cases h3 : y = 3
  · subst h3
    rw [show ((3 : Nat) : Int) = 3 from rfl]
    have e2 : s.mixed 3 = s.inNext := (if_neg (by omega)).trans ((if_neg (by omega)).trans (if_pos (by omega)))
    have e3 : Cs.mixedC 3 = 11 := (if_neg (by omega)).trans ((if_neg (by omega)).trans (if_pos (by omega)))
    rw [e2, e3]; exact mixed_3 h
  by_cases h4 : y = 4
  · subst h4
    rw [show ((4 : Nat) : Int) = 4 from rfl]
    have e2 : s.mixed 4 = s.swapTop := (if_neg (by omega)).trans ((if_neg (by omega)).trans ((if_neg (by omega)).trans (if_pos (by omega))))
    have e3 : Cs.mixedC 4 = 19 := (if_neg (by omega)).trans ((if_neg (by omega)).trans ((if_neg (by omega)).trans (if_pos (by omega))))
    rw [e2, e3]; exact mixed_4 h
  by_cases h5 : y = 5
  · have e2 : s.mixed y = s.swapDE := (if_neg (by omega)).trans ((if_neg (by omega)).trans ((if_neg (by omega)).trans ((if_neg (by omega)).trans (if_pos (by omega)))))
    have e3 : Cs.mixedC y = 4 := (if_neg (by omega)).trans ((if_neg (by omega)).trans ((if_neg (by omega)).trans (if_neg (by omega))))
    rw [e2, e3]; exact mixed_5 y h5 h
  by_cases h6 : y = 6
  · subst h6
    rw [show ((6 : Nat) : Int) = 6 from rfl]
    have e2 : s.mixed 6 = (s.setQ1 false).setQ2 false := (if_neg (by omega)).trans ((if_neg (by omega)).trans ((if_neg (by omega)).trans ((if_neg (by omega)).trans ((if_neg (by omega)).trans (if_pos (by omega))))))
    have e3 : Cs.mixedC 6 = 4 := (if_neg (by omega)).trans ((if_neg (by omega)).trans ((if_neg (by omega)).trans (if_neg (by omega))))
    rw [e2, e3]; exact mixed_6 h
  by_cases h1 : y = 1
  · have e2 : s.mixed y = ((s.setQ1 true).setQ2 true).setDL true := (if_neg (by omega)).trans ((if_neg (by omega)).trans ((if_neg (by omega)).trans ((if_neg (by omega)).trans ((if_neg (by omega)).trans (if_neg (by omega))))))
    have e3 : Cs.mixedC y = 4 := (if_neg (by omega)).trans ((if_neg (by omega)).trans ((if_neg (by omega)).trans (if_neg (by omega))))
    rw [e2, e3]; exact mixed_1 y h1 h
  obtain rfl : y = 7 := by omega
  rw [show ((7 : Nat) : Int) = 7 from rfl]
  have e2 : s.mixed 7 = ((s.setQ1 true).setQ2 true).setDL true := (if_neg (by omega)).trans ((if_neg (by omega)).trans ((if_neg (by omega)).trans ((if_neg (by omega)).trans ((if_neg (by omega)).trans (if_neg (by omega))))))
  have e3 : Cs.mixedC 7 = 4 := (if_neg (by omega)).trans ((if_neg (by omega)).trans ((if_neg (by omega)).trans (if_neg (by omega))))
  rw [e2, e3]; exact mixed_7 h
set_option maxRecDepth 100000 in
theorem lastOdd_at {W0 w : World} {c b n : Nat} {s : Cs} {l : Blocks} (y : Nat) (hy : y < 4) (h : Hid (Co W0 w c b s l (n + 2))) :
    Calls Tryz.prog 169 #[.pointer (some ⟨c, 0, none⟩), .int .i64 (y : Int)] w fun e w' => e = .returned (.int .i64 ((Cs.lastOddC y : Nat) : Int)) ∧ Hid (Co W0 w' c b (s.lastOdd y) l n) := by
  by_cases h0 : y = 0
  · subst h0
    rw [show ((0 : Nat) : Int) = 0 from rfl]
    have e2 : s.lastOdd 0 = s.back := if_pos (by omega)
    have e3 : Cs.lastOddC 0 = 10 := if_pos (by omega)
    rw [e2, e3]; exact lastOdd_0 h
  by_cases h1 : y = 1
  · subst h1
    rw [show ((1 : Nat) : Int) = 1 from rfl]
    have e2 : s.lastOdd 1 = s.setR (s.r.swap true) := (if_neg (by omega)).trans (if_pos (by omega))
    have e3 : Cs.lastOddC 1 = 4 := (if_neg (by omega)).trans (if_pos (by omega))
    rw [e2, e3]; exact lastOdd_1 h
  by_cases h2 : y = 2
  · subst h2
    rw [show ((2 : Nat) : Int) = 2 from rfl]
    have e2 : s.lastOdd 2 = s.setPC (s.pair 2) := (if_neg (by omega)).trans ((if_neg (by omega)).trans (if_pos (by omega)))
    have e3 : Cs.lastOddC 2 = 4 := (if_neg (by omega)).trans ((if_neg (by omega)).trans (if_pos (by omega)))
    rw [e2, e3]; exact lastOdd_2 h
  by_cases h3 : y = 3
  · subst h3
    rw [show ((3 : Nat) : Int) = 3 from rfl]
    have e2 : s.lastOdd 3 = s.setSP (s.pair 2) := (if_neg (by omega)).trans ((if_neg (by omega)).trans (if_neg (by omega)))
    have e3 : Cs.lastOddC 3 = 6 := (if_neg (by omega)).trans ((if_neg (by omega)).trans (if_neg (by omega)))
    rw [e2, e3]; exact lastOdd_3 h
  exact absurd hy (by omega)
end Go.Proofs.YtljjgakfnajifaaGreatDoor
