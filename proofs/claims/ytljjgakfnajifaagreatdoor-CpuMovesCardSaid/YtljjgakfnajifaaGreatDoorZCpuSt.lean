import Derived.Test.YtljjgakfnajifaaGreatDoorZCpuJ
import Derived.Test.YtljjgakfnajifaaGreatDoorZRegMet
import Derived.Test.YtljjgakfnajifaaGreatDoorZRegSwap
import Derived.Deep.Cut
import Derived.Deep.CutRange
namespace Go.Proofs.YtljjgakfnajifaaGreatDoor
open Go.RowKit
theorem Rg.swap_fits {r : Rg} (h : r.Fits) (all : Bool) : (r.swap all).Fits := by
  cases all
  · exact { h with a := h.x0, f := h.x1, x0 := h.a, x1 := h.f }
  · exact { h with b := h.x2, c := h.x3, d := h.x4, e := h.x5, h := h.x6, l := h.x7, x2 := h.b, x3 := h.c, x4 := h.d, x5 := h.e, x6 := h.h, x7 := h.l }
set_option maxRecDepth 100000 in
set_option maxHeartbeats 400000 in
theorem starts_0 {W0 w : World} {c b n : Nat} {s : Cs} {l : Blocks} (h : Hid (Co W0 w c b s l (n + 1))) :
    Calls Tryz.prog 151 #[.pointer (some ⟨c, 0, none⟩), .int .i64 0] w fun e w' => e = .returned (.int .i64 4) ∧ Hid (Co W0 w' c b (s) l n) := by
  obtain ⟨hf, hg, X, hX, hO⟩ := h.out.out
  have HF := Lib.hid hf
  have HF0 := Lib.hid hf
  have HG := Lib.hid hg
  have HX := Lib.hid hX
  have HM := Lib.hid hO
  clear h hf hg hX hO
  go_enter Tryz.func151, Tryz.ntmps151
  go_wp2_with (first
    | ((with_reducible apply cgY HM); exact cgS) | ((with_reducible apply cpY HM); exact cpS; clear HM; intro w' HM) | ((with_reducible apply crY HM); exact crS) | ((with_reducible apply clY HM); exact clS; clear HM; intro w' HM))
  go_ret
  have hco := Co.ok HM.out HG.out HX.out
  exact ⟨rfl, Lib.hid (hco.less (by omega))⟩
set_option maxRecDepth 100000 in
set_option maxHeartbeats 400000 in
theorem starts_1 {W0 w : World} {c b n : Nat} {s : Cs} {l : Blocks} (h : Hid (Co W0 w c b s l (n + 1))) :
    Calls Tryz.prog 151 #[.pointer (some ⟨c, 0, none⟩), .int .i64 1] w fun e w' => e = .returned (.int .i64 4) ∧ Hid (Co W0 w' c b (s.setR (s.r.swap false)) l n) := by
  obtain ⟨hf, hg, X, hX, hO⟩ := h.out.out
  have HF := Lib.hid hf
  have HF0 := Lib.hid hf
  have HG := Lib.hid hg
  have HX := Lib.hid hX
  have HM := Lib.hid hO
  have hR : (s.r.swap false).Fits := Rg.swap_fits hf.r _
  clear h hf hg hX hO
  go_enter Tryz.func151, Tryz.ntmps151
  go_wp2_with (first
    | ((with_reducible apply cgY HM); exact cgS) | ((with_reducible apply cpY HM); exact cpS; clear HM; intro w' HM) | ((with_reducible apply crY HM); exact crS) | ((with_reducible apply clY HM); exact clS; clear HM; intro w' HM)
    | (go_at_call 210; (with_reducible refine (swap_false _ _).mono ?_); rintro e w' ⟨rfl, hb⟩; replace HM := Lib.hid (HM.out.call hb); clear hb))
  go_ret
  have hco := Co.ok HM.out HG.out HX.out
  exact ⟨rfl, Lib.hid (hco.less (by omega))⟩
set_option maxRecDepth 100000 in
set_option maxHeartbeats 400000 in
theorem starts_2 {W0 w : World} {c b n : Nat} {s : Cs} {l : Blocks} (h : Hid (Co W0 w c b s l (n + 1))) :
    Calls Tryz.prog 151 #[.pointer (some ⟨c, 0, none⟩), .int .i64 2] w fun e w' => e = .returned (.int .i64 ((Cs.hopC (decide (s.decB ≠ 0)) 13 : Nat) : Int)) ∧ Hid (Co W0 w' c b ((s.setB s.decB).hop (decide (s.decB ≠ 0))) l n) := by
  obtain ⟨hf, hg, X, hX, hO⟩ := h.out.out
  have HF := Lib.hid hf
  have HF0 := Lib.hid hf
  have HG := Lib.hid hg
  have HX := Lib.hid hX
  have HM := Lib.hid hO
  have d1 : s.decB < 256 := Nat.mod_lt _ (by decide)
  obtain ⟨m, hm⟩ : ∃ m, Hid (decide (s.decB ≠ 0) = m) := ⟨_, rfl⟩
  rw [hm.out]
  have e1 : IntKind.u8.wrap ((s.r.b : Int) - 1) = ((s.decB : Nat) : Int) := by unfold Cs.decB; show ((s.r.b : Int) - 1) % 256 = _; have := hf.r.b; omega
  have e2 : (((s.setB s.decB).r.b : Int) != 0) = m := by rw [← hm.out]; show ((s.decB : Int) != 0) = _; rw [Bool.eq_iff_iff]; simp
  clear h hf hg hX hO
  go_enter Tryz.func151, Tryz.ntmps151
  go_wp2_with (first
    | ((with_reducible apply cgY HM); exact cgS) | ((with_reducible apply cpY HM); exact cpS; clear HM; intro w' HM) | ((with_reducible apply crY HM); exact crS) | ((with_reducible apply clY HM); exact clS; clear HM; intro w' HM)
    | (go_at_call 211; have hco := Lib.hid (Co.ok HM.out HG.out HX.out); (with_reducible refine (hop_13 _ hco).mono ?_); clear hco; rintro e w' ⟨rfl, hc⟩; clear HM HF HG HX; obtain ⟨X, HF, HG, HX, HM⟩ := hc.out.hid; clear hc))
  go_ret
  have hco := Co.ok HM.out HG.out HX.out
  exact ⟨rfl, Lib.hid (hco.less (by omega))⟩
set_option maxRecDepth 100000 in
set_option maxHeartbeats 400000 in
theorem starts_3 {W0 w : World} {c b n : Nat} {s : Cs} {l : Blocks} (h : Hid (Co W0 w c b s l (n + 1))) :
    Calls Tryz.prog 151 #[.pointer (some ⟨c, 0, none⟩), .int .i64 3] w fun e w' => e = .returned (.int .i64 ((Cs.hopC true 12 : Nat) : Int)) ∧ Hid (Co W0 w' c b (s.hop true) l n) := by
  obtain ⟨hf, hg, X, hX, hO⟩ := h.out.out
  have HF := Lib.hid hf
  have HF0 := Lib.hid hf
  have HG := Lib.hid hg
  have HX := Lib.hid hX
  have HM := Lib.hid hO
  clear h hf hg hX hO
  go_enter Tryz.func151, Tryz.ntmps151
  go_wp2_with (first
    | ((with_reducible apply cgY HM); exact cgS) | ((with_reducible apply cpY HM); exact cpS; clear HM; intro w' HM) | ((with_reducible apply crY HM); exact crS) | ((with_reducible apply clY HM); exact clS; clear HM; intro w' HM)
    | (go_at_call 211; have hco := Lib.hid (Co.ok HM.out HG.out HX.out); (with_reducible refine (hop_12 true hco).mono ?_); clear hco; rintro e w' ⟨rfl, hc⟩; clear HM HF HG HX; obtain ⟨X, HF, HG, HX, HM⟩ := hc.out.hid; clear hc))
  go_ret
  have hco := Co.ok HM.out HG.out HX.out
  exact ⟨rfl, Lib.hid (hco.less (by omega))⟩
set_option maxRecDepth 100000 in
set_option maxHeartbeats 400000 in
theorem starts_if {W0 w : World} {c b n : Nat} {s : Cs} {l : Blocks} (hT : Tab w) (y : Nat) (hy : 4 ≤ y ∧ y < 8) (h : Hid (Co W0 w c b s l (n + 1))) :
    Calls Tryz.prog 151 #[.pointer (some ⟨c, 0, none⟩), .int .i64 (y : Int)] w fun e w' => e = .returned (.int .i64 ((Cs.hopC (rgMet s.r.f (y - 4)) 12 : Nat) : Int)) ∧ Hid (Co W0 w' c b (s.hop (rgMet s.r.f (y - 4))) l n) := by
  obtain ⟨hf, hg, X, hX, hO⟩ := h.out.out
  have HF := Lib.hid hf
  have HF0 := Lib.hid hf
  have HG := Lib.hid hg
  have HX := Lib.hid hX
  have HM := Lib.hid hO
  have f1 : s.r.f < 256 := hf.r.f
  obtain ⟨k, hk⟩ : ∃ k, k = y - 4 := ⟨_, rfl⟩
  rw [← hk]
  have y0 : ((y : Int) == 0) = false := by simp; omega
  have y1 : ((y : Int) == 1) = false := by simp; omega
  have y2 : ((y : Int) == 2) = false := by simp; omega
  have y3 : ((y : Int) == 3) = false := by simp; omega
  have e1 : IntKind.i64.wrap ((y : Int) - 4) = (k : Int) := by rw [IntKind.wrap_i64]; omega
  have k8 : (k : Int) % 8 = ((k : Nat) : Int) := by omega
  have HT := Lib.hid hT
  have hT0 : Tab W0 → Tab w := fun _ => hT
  clear hy hk hT0
  clear h hf hg hX hO
  go_enter Tryz.func151, Tryz.ntmps151
  go_wp2_with (first
    | ((with_reducible apply cgY HM); exact cgS) | ((with_reducible apply cpY HM); exact cpS; clear HM; intro w' HM) | ((with_reducible apply crY HM); exact crS) | ((with_reducible apply clY HM); exact clS; clear HM; intro w' HM)
    | (go_at_call 166; (with_reducible refine (met_at s.r.f k _ f1 k8 _ (Lib.hid rfl) _ HT.out).mono ?_); rintro e w' ⟨rfl, rfl⟩)
    | (go_at_call 211; have hco := Lib.hid (Co.ok HM.out HG.out HX.out); (with_reducible refine (hop_12 _ hco).mono ?_); clear hco; rintro e w' ⟨rfl, hc⟩; clear HM HF HG HX; obtain ⟨X, HF, HG, HX, HM⟩ := hc.out.hid; clear hc))
  go_ret
  have hco := Co.ok HM.out HG.out HX.out
  exact ⟨rfl, Lib.hid (hco.less (by omega))⟩
end Go.Proofs.YtljjgakfnajifaaGreatDoor
