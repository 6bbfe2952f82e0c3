import Derived.Test.YtljjgakfnajifaaGreatDoorZCpuB1
import Derived.Deep.Cut
import Derived.Deep.CutRange
namespace Go.Proofs.YtljjgakfnajifaaGreatDoor
open Go.RowKit
set_option maxRecDepth 100000 in
set_option maxHeartbeats 1600000 in
theorem moveNext_reg {W0 w : World} {c b n : Nat} {s : Cs} {l : Blocks} (i : Int) (hi : ¬ i = 6) (h : Hid (Co W0 w c b s l (n + 2))) :
    Calls Tryz.prog 160 #[.pointer (some ⟨c, 0, none⟩), .int .i64 i] w fun e w' => e = .returned (.int .i64 7) ∧ Hid (Co W0 w' c b (s.next.setOne i s.nextV) l n) := by
  obtain ⟨hf, hg, X, hX, hO⟩ := h.out.out
  have HF := Lib.hid hf
  have HF0 := Lib.hid hf
  have HG := Lib.hid hg
  have HX := Lib.hid hX
  have HM := Lib.hid hO
  have i1 : (i != 6) = true := by simp; exact hi
  have v1 : s.nextV < 256 := hf.m _
  clear hi h hf hg hX hO
  go_enter Tryz.func160, Tryz.ntmps160
  go_wp2_with (first
    | ((with_reducible apply cgY HM); exact cgS) | ((with_reducible apply cpY HM); exact cpS; clear HM; intro w' HM) | ((with_reducible apply crY HM); exact crS) | ((with_reducible apply clY HM); exact clS; clear HM; intro w' HM)
    | (go_at_call 78; have hco := Lib.hid (Co.ok HM.out HG.out HX.out); (with_reducible refine (next_at hco).mono ?_); clear hco; rintro e w' ⟨rfl, hc⟩; clear HM HF HG HX; obtain ⟨X, HF, HG, HX, HM⟩ := hc.out.hid; clear hc)
    | (go_at_call 86; have hco := Lib.hid (Co.ok HM.out HG.out HX.out); (with_reducible refine (csetOne_at _ _ v1 hco).mono ?_); clear hco; rintro e w' ⟨rfl, hc⟩; clear HM HF HG HX; obtain ⟨X, HF, HG, HX, HM⟩ := hc.out.hid; clear hc))
  go_ret
  have hco := Co.ok HM.out HG.out HX.out
  exact ⟨rfl, Lib.hid (hco.less (by omega))⟩
set_option maxRecDepth 100000 in
set_option maxHeartbeats 1600000 in
theorem moveNext_near {W0 w : World} {c b n : Nat} {s : Cs} {l : Blocks} (hp : s.px = 0) (h : Hid (Co W0 w c b s l (n + 3))) :
    Calls Tryz.prog 160 #[.pointer (some ⟨c, 0, none⟩), .int .i64 6] w fun e w' => e = .returned (.int .i64 10) ∧ Hid (Co W0 w' c b (s.point.next.wr s.pointV s.point.nextV) l n) := by
  obtain ⟨hf, hg, X, hX, hO⟩ := h.out.out
  have HF := Lib.hid hf
  have HF0 := Lib.hid hf
  have HG := Lib.hid hg
  have HX := Lib.hid hX
  have HM := Lib.hid hO
  have P1 : s.pointV < 65536 := Cs.pointV_lt hf
  have v1 : s.point.nextV < 256 := by show s.point.m _ < 256; rw [Cs.point_m]; exact hf.m _
  have hp' : ((s.px : Int) == 0) = true := by simp; omega
  have hpp : s.point.next.px = 0 := by show s.point.px = 0; rw [Cs.point_px]; exact hp
  clear h hf hg hX hO
  have hmWrite : ∀ w : World, (method 309 28 (.pointer (some ⟨b, 0, none⟩)) "Write").run Tryz.prog w = .ok (261, .pointer (some ⟨b, 0, none⟩)) w := fun _ => by kernel_rfl
  go_enter Tryz.func160, Tryz.ntmps160
  go_upto_region 5 with (first
    | ((with_reducible apply cgY HM); exact cgS) | ((with_reducible apply cpY HM); exact cpS; clear HM; intro w' HM) | ((with_reducible apply crY HM); exact crS) | ((with_reducible apply clY HM); exact clS; clear HM; intro w' HM)
    | (go_at_call 81; have hco := Lib.hid (Co.ok HM.out HG.out HX.out); (with_reducible refine (pointed_at hco).mono ?_); clear hco; rintro e w' ⟨rfl, hc⟩; clear HM HF HG HX; obtain ⟨X, HF, HG, HX, HM⟩ := hc.out.hid; clear hc))
  have HM' := Lib.hid HM.out.drew
  clear HM; have HM := HM'; clear HM'
  have c29 := HM.out.cells_at .z 29 _ rfl
  go_region_with (first
    | (go_at_call 78; have hco := Lib.hid (Co.ok HM.out HG.out HX.out); (with_reducible refine (next_at hco).mono ?_); clear hco; rintro e w' ⟨rfl, hc⟩; clear HM HF HG HX; obtain ⟨X, HF, HG, HX, HM⟩ := hc.out.hid; clear hc; have c29 := HM.out.cells_at .z 29 _ rfl)
    | (go_at_call 261; have hco := Lib.hid (Co.ok HM.out HG.out HX.out); (with_reducible refine (wr_at _ _ P1 v1 hco).mono ?_); clear hco; rintro e w' ⟨rfl, hc⟩; clear HM HF HG HX; obtain ⟨X, HF, HG, HX, HM⟩ := hc.out.hid; clear hc; have c29 := HM.out.cells_at .z 29 _ rfl))
  all_goals go_wp2_with (first | ((with_reducible apply cgY HM); exact cgS) | ((with_reducible apply cpY HM); exact cpS; clear HM; intro w' HM) | ((with_reducible apply crY HM); exact crS) | ((with_reducible apply clY HM); exact clS; clear HM; intro w' HM) | (go_at_call 163; (with_reducible refine (either_near (s := s.point.next.wr s.pointV s.point.nextV) .z HM HF.out hpp 10 15).mono ?_); rintro e w' ⟨rfl, hb⟩; replace HM := Lib.hid (HM.out.call hb); clear hb))
  all_goals go_ret
  all_goals have hco := Co.ok HM.out HG.out HX.out
  all_goals exact ⟨rfl, Lib.hid (hco.less (by omega))⟩
set_option maxRecDepth 100000 in
set_option maxHeartbeats 1600000 in
theorem moveNext_far {W0 w : World} {c b n : Nat} {s : Cs} {l : Blocks} (hp : ¬ s.px = 0) (h : Hid (Co W0 w c b s l (n + 3))) :
    Calls Tryz.prog 160 #[.pointer (some ⟨c, 0, none⟩), .int .i64 6] w fun e w' => e = .returned (.int .i64 15) ∧ Hid (Co W0 w' c b (s.point.next.wr s.pointV s.point.nextV) l n) := by
  obtain ⟨hf, hg, X, hX, hO⟩ := h.out.out
  have HF := Lib.hid hf
  have HF0 := Lib.hid hf
  have HG := Lib.hid hg
  have HX := Lib.hid hX
  have HM := Lib.hid hO
  have P1 : s.pointV < 65536 := Cs.pointV_lt hf
  have v1 : s.point.nextV < 256 := by show s.point.m _ < 256; rw [Cs.point_m]; exact hf.m _
  have hp' : ((s.px : Int) == 0) = false := by simp; omega
  have hpp : ¬ s.point.next.px = 0 := by show ¬ s.point.px = 0; rw [Cs.point_px]; exact hp
  clear h hf hg hX hO
  have hmWrite : ∀ w : World, (method 309 28 (.pointer (some ⟨b, 0, none⟩)) "Write").run Tryz.prog w = .ok (261, .pointer (some ⟨b, 0, none⟩)) w := fun _ => by kernel_rfl
  go_enter Tryz.func160, Tryz.ntmps160
  go_upto_region 5 with (first
    | ((with_reducible apply cgY HM); exact cgS) | ((with_reducible apply cpY HM); exact cpS; clear HM; intro w' HM) | ((with_reducible apply crY HM); exact crS) | ((with_reducible apply clY HM); exact clS; clear HM; intro w' HM)
    | (go_at_call 81; have hco := Lib.hid (Co.ok HM.out HG.out HX.out); (with_reducible refine (pointed_at hco).mono ?_); clear hco; rintro e w' ⟨rfl, hc⟩; clear HM HF HG HX; obtain ⟨X, HF, HG, HX, HM⟩ := hc.out.hid; clear hc))
  have HM' := Lib.hid HM.out.drew
  clear HM; have HM := HM'; clear HM'
  have c29 := HM.out.cells_at .z 29 _ rfl
  go_region_with (first
    | (go_at_call 78; have hco := Lib.hid (Co.ok HM.out HG.out HX.out); (with_reducible refine (next_at hco).mono ?_); clear hco; rintro e w' ⟨rfl, hc⟩; clear HM HF HG HX; obtain ⟨X, HF, HG, HX, HM⟩ := hc.out.hid; clear hc; have c29 := HM.out.cells_at .z 29 _ rfl)
    | (go_at_call 261; have hco := Lib.hid (Co.ok HM.out HG.out HX.out); (with_reducible refine (wr_at _ _ P1 v1 hco).mono ?_); clear hco; rintro e w' ⟨rfl, hc⟩; clear HM HF HG HX; obtain ⟨X, HF, HG, HX, HM⟩ := hc.out.hid; clear hc; have c29 := HM.out.cells_at .z 29 _ rfl))
  all_goals go_wp2_with (first | ((with_reducible apply cgY HM); exact cgS) | ((with_reducible apply cpY HM); exact cpS; clear HM; intro w' HM) | ((with_reducible apply crY HM); exact crS) | ((with_reducible apply clY HM); exact clS; clear HM; intro w' HM) | (go_at_call 163; (with_reducible refine (either_far (s := s.point.next.wr s.pointV s.point.nextV) .z HM HF.out hpp 10 15).mono ?_); rintro e w' ⟨rfl, hb⟩; replace HM := Lib.hid (HM.out.call hb); clear hb))
  all_goals go_ret
  all_goals have hco := Co.ok HM.out HG.out HX.out
  all_goals exact ⟨rfl, Lib.hid (hco.less (by omega))⟩
end Go.Proofs.YtljjgakfnajifaaGreatDoor
