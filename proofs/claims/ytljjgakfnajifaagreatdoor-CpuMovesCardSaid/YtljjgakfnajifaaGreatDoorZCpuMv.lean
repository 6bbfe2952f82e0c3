import Derived.Test.YtljjgakfnajifaaGreatDoorZCpuB1
import Derived.Deep.Cut
import Derived.Deep.RegionHeld3
import Derived.Deep.CutRange
namespace Go.Proofs.YtljjgakfnajifaaGreatDoor
open Go.RowKit
theorem Cs.point_one (s : Cs) (i : Int) : s.point.r.one i 0 = s.r.one i 0 := by unfold Cs.point; split <;> rfl
set_option maxRecDepth 100000 in
set_option maxHeartbeats 1600000 in
theorem move_halt {W0 w : World} {c b n : Nat} {s : Cs} {l : Blocks} (x p q : Nat) (h : Hid (Co W0 w c b s l (n))) :
    Calls Tryz.prog 89 #[.pointer (some ⟨c, 0, none⟩), .agg #[.int .i64 (x : Int), .int .i64 6, .int .i64 6, .int .i64 (p : Int), .int .i64 (q : Int)]] w fun e w' => e = .returned (.int .i64 4) ∧ Hid (Co W0 w' c b (s.setHT true) l n) := by
  obtain ⟨hf, hg, X, hX, hO⟩ := h.out.out
  have HF := Lib.hid hf
  have HF0 := Lib.hid hf
  have HG := Lib.hid hg
  have HX := Lib.hid hX
  have HM := Lib.hid hO
  clear h hf hg hX hO
  have tg1 : Hid True := trivial
  go_enter Tryz.func89, Tryz.ntmps89
  go_wp2_with (first
    | ((with_reducible apply own_cell1 HM); exact rfl; exact rfl; exact dS; exact rfl)
    | ((with_reducible apply cgY HM); exact cgS) | ((with_reducible apply cpY HM); exact cpS; clear HM; intro w' HM) | ((with_reducible apply crY HM); exact crS) | ((with_reducible apply clY HM); exact clS; clear HM; intro w' HM)
    | ((with_reducible apply own_box1 HM); exact rfl; (conv => lhs; whnf); exact rfl; exact rfl; clear tg1 HM; intro w' g1 HM)
    | ((with_reducible apply own_load1 HM); exact rfl; exact rfl; exact tS; exact rfl))
  go_ret
  have hco := Co.ok (l := _ :: l) HM.out HG.out HX.out
  exact ⟨rfl, Lib.hid hco.drop⟩
set_option maxRecDepth 100000 in
set_option maxHeartbeats 1600000 in
theorem move_to_near {W0 w : World} {c b n : Nat} {s : Cs} {l : Blocks} (x z p q : Nat) (hz : ¬ z = 6) (hp : s.px = 0) (h : Hid (Co W0 w c b s l (n + 3))) :
    Calls Tryz.prog 89 #[.pointer (some ⟨c, 0, none⟩), .agg #[.int .i64 (x : Int), .int .i64 6, .int .i64 (z : Int), .int .i64 (p : Int), .int .i64 (q : Int)]] w fun e w' => e = .returned (.int .i64 7) ∧ Hid (Co W0 w' c b (s.point.wr s.pointV (s.own z)) l n) := by
  obtain ⟨hf, hg, X, hX, hO⟩ := h.out.out
  have HF := Lib.hid hf
  have HF0 := Lib.hid hf
  have HG := Lib.hid hg
  have HX := Lib.hid hX
  have HM := Lib.hid hO
  have P1 : s.pointV < 65536 := Cs.pointV_lt hf
  have e0 : s.own z = s.point.own z := by unfold Cs.own; rw [Cs.point_one]
  have v1 : s.point.own z < 256 := by rw [← e0]; exact Cs.own_lt hf _
  rw [e0]
  have z1 : ((z : Int) == 6) = false := by simp; omega
  have hp' : ((s.px : Int) == 0) = true := by simp; omega
  have hpp : s.point.px = 0 := by rw [Cs.point_px]; exact hp
  clear e0 hz h hf hg hX hO
  have hmWrite : ∀ w : World, (method 309 28 (.pointer (some ⟨b, 0, none⟩)) "Write").run Tryz.prog w = .ok (261, .pointer (some ⟨b, 0, none⟩)) w := fun _ => by kernel_rfl
  have tg1 : Hid True := trivial
  go_enter Tryz.func89, Tryz.ntmps89
  go_upto_region 5 with (first
    | ((with_reducible apply own_cell1 HM); exact rfl; exact rfl; exact dS; exact rfl)
    | ((with_reducible apply cgY HM); exact cgS) | ((with_reducible apply cpY HM); exact cpS; clear HM; intro w' HM) | ((with_reducible apply crY HM); exact crS) | ((with_reducible apply clY HM); exact clS; clear HM; intro w' HM)
    | ((with_reducible apply own_box1 HM); exact rfl; (conv => lhs; whnf); exact rfl; exact rfl; clear tg1 HM; intro w' g1 HM)
    | ((with_reducible apply own_load1 HM); exact rfl; exact rfl; exact tS; exact rfl))
  have HM' := Lib.hid HM.out.drew
  clear HM; have HM := HM'; clear HM'
  have c29 := HM.out.cells_at .z 29 _ rfl
  have d2 := HM.out.cells_at (.s .z) 2 _ rfl
  go_region_held3 (fun w' => w'.cell? ⟨c, 29, none⟩ = some (.iface 28 (.pointer (some ⟨b, 0, none⟩))) ∧ w'.cell? ⟨g1, 2, none⟩ = some (.int .i64 (z : Int))) (first | assumption | (simp only [*]; trivial) | simp [*]) (first
    | (go_at_call 81; have hco := Lib.hid (Co.ok (l := _ :: l) HM.out HG.out HX.out); (with_reducible refine (pointed_at hco).mono ?_); clear hco; rintro e w' ⟨rfl, hc⟩; clear HM HF HG HX; obtain ⟨X, HF, HG, HX, HM⟩ := hc.out.hid1; clear hc; have c29 := HM.out.cells_at .z 29 _ rfl; have d2 := HM.out.cells_at (.s .z) 2 _ rfl)
    | (go_at_call 162; (with_reducible refine (cown_q .z HM HF.out _).mono ?_); rintro e w' ⟨rfl, hb⟩; replace HM := Lib.hid (HM.out.call hb); clear hb; have c29 := HM.out.cells_at .z 29 _ rfl; have d2 := HM.out.cells_at (.s .z) 2 _ rfl)
    | (go_at_call 261; have hco := Lib.hid (Co.ok (l := _ :: l) HM.out HG.out HX.out); (with_reducible refine (wr_at _ _ P1 v1 hco).mono ?_); clear hco; rintro e w' ⟨rfl, hc⟩; clear HM HF HG HX; obtain ⟨X, HF, HG, HX, HM⟩ := hc.out.hid1; clear hc; have c29 := HM.out.cells_at .z 29 _ rfl; have d2 := HM.out.cells_at (.s .z) 2 _ rfl))
  all_goals go_wp2_with (first | ((with_reducible apply own_cell1 HM); exact rfl; exact rfl; exact dS; exact rfl) | ((with_reducible apply cgY HM); exact cgS) | ((with_reducible apply cpY HM); exact cpS; clear HM; intro w' HM) | ((with_reducible apply crY HM); exact crS) | ((with_reducible apply clY HM); exact clS; clear HM; intro w' HM) | ((with_reducible apply own_box1 HM); exact rfl; (conv => lhs; whnf); exact rfl; exact rfl; clear tg1 HM; intro w' g1 HM) | ((with_reducible apply own_load1 HM); exact rfl; exact rfl; exact tS; exact rfl) | (go_at_call 163; (with_reducible refine (either_near (s := s.point.wr s.pointV (s.point.own z)) .z HM HF.out hpp 7 15).mono ?_); rintro e w' ⟨rfl, hb⟩; replace HM := Lib.hid (HM.out.call hb); clear hb))
  all_goals go_ret
  all_goals have hco := Co.ok (l := _ :: l) HM.out HG.out HX.out
  all_goals exact ⟨rfl, Lib.hid (hco.drop.less (by omega))⟩
set_option maxRecDepth 100000 in
set_option maxHeartbeats 1600000 in
theorem move_from_near {W0 w : World} {c b n : Nat} {s : Cs} {l : Blocks} (x y p q : Nat) (hy : ¬ y = 6) (hp : s.px = 0) (h : Hid (Co W0 w c b s l (n + 3))) :
    Calls Tryz.prog 89 #[.pointer (some ⟨c, 0, none⟩), .agg #[.int .i64 (x : Int), .int .i64 (y : Int), .int .i64 6, .int .i64 (p : Int), .int .i64 (q : Int)]] w fun e w' => e = .returned (.int .i64 7) ∧ Hid (Co W0 w' c b ((s.point.rd s.pointV).setOwn y (s.m s.pointV)) l n) := by
  rw [show s.m s.pointV = s.point.m s.pointV by rw [Cs.point_m]]
  obtain ⟨hf, hg, X, hX, hO⟩ := h.out.out
  have HF := Lib.hid hf
  have HF0 := Lib.hid hf
  have HG := Lib.hid hg
  have HX := Lib.hid hX
  have HM := Lib.hid hO
  have P1 : s.pointV < 65536 := Cs.pointV_lt hf
  have v1 : s.point.m s.pointV < 256 := by rw [Cs.point_m]; exact hf.m _
  have y1 : ((y : Int) == 6) = false := by simp; omega
  have hp' : ((s.px : Int) == 0) = true := by simp; omega
  have hpp : ((s.point.rd s.pointV).setOwn y (s.point.m s.pointV)).px = 0 := by show s.point.px = 0; rw [Cs.point_px]; exact hp
  clear hy h hf hg hX hO
  have hmRead : ∀ w : World, (method 309 28 (.pointer (some ⟨b, 0, none⟩)) "Read").run Tryz.prog w = .ok (260, .pointer (some ⟨b, 0, none⟩)) w := fun _ => by kernel_rfl
  have tg1 : Hid True := trivial
  go_enter Tryz.func89, Tryz.ntmps89
  go_upto_region 8 with (first
    | ((with_reducible apply own_cell1 HM); exact rfl; exact rfl; exact dS; exact rfl)
    | ((with_reducible apply cgY HM); exact cgS) | ((with_reducible apply cpY HM); exact cpS; clear HM; intro w' HM) | ((with_reducible apply crY HM); exact crS) | ((with_reducible apply clY HM); exact clS; clear HM; intro w' HM)
    | ((with_reducible apply own_box1 HM); exact rfl; (conv => lhs; whnf); exact rfl; exact rfl; clear tg1 HM; intro w' g1 HM)
    | ((with_reducible apply own_load1 HM); exact rfl; exact rfl; exact tS; exact rfl))
  have HM' := Lib.hid HM.out.drew
  clear HM; have HM := HM'; clear HM'
  have c29 := HM.out.cells_at .z 29 _ rfl
  have d1 := HM.out.cells_at (.s .z) 1 _ rfl
  go_region_held3 (fun w' => w'.cell? ⟨c, 29, none⟩ = some (.iface 28 (.pointer (some ⟨b, 0, none⟩))) ∧ w'.cell? ⟨g1, 1, none⟩ = some (.int .i64 (y : Int))) (first | assumption | (simp only [*]; trivial) | simp [*]) (first
    | (go_at_call 81; have hco := Lib.hid (Co.ok (l := _ :: l) HM.out HG.out HX.out); (with_reducible refine (pointed_at hco).mono ?_); clear hco; rintro e w' ⟨rfl, hc⟩; clear HM HF HG HX; obtain ⟨X, HF, HG, HX, HM⟩ := hc.out.hid1; clear hc; have c29 := HM.out.cells_at .z 29 _ rfl; have d1 := HM.out.cells_at (.s .z) 1 _ rfl)
    | (go_at_call 260; have hco := Lib.hid (Co.ok (l := _ :: l) HM.out HG.out HX.out); (with_reducible refine (rd_at _ P1 hco).mono ?_); clear hco; rintro e w' ⟨rfl, hc⟩; clear HM HF HG HX; obtain ⟨X, HF, HG, HX, HM⟩ := hc.out.hid1; clear hc; have c29 := HM.out.cells_at .z 29 _ rfl; have d1 := HM.out.cells_at (.s .z) 1 _ rfl)
    | (go_at_call 142; have hco := Lib.hid (Co.ok (l := _ :: l) HM.out HG.out HX.out); (with_reducible refine (csetOwn_at _ _ v1 hco).mono ?_); clear hco; rintro e w' ⟨rfl, hc⟩; clear HM HF HG HX; obtain ⟨X, HF, HG, HX, HM⟩ := hc.out.hid1; clear hc; have c29 := HM.out.cells_at .z 29 _ rfl; have d1 := HM.out.cells_at (.s .z) 1 _ rfl))
  all_goals go_wp2_with (first | ((with_reducible apply own_cell1 HM); exact rfl; exact rfl; exact dS; exact rfl) | ((with_reducible apply cgY HM); exact cgS) | ((with_reducible apply cpY HM); exact cpS; clear HM; intro w' HM) | ((with_reducible apply crY HM); exact crS) | ((with_reducible apply clY HM); exact clS; clear HM; intro w' HM) | ((with_reducible apply own_box1 HM); exact rfl; (conv => lhs; whnf); exact rfl; exact rfl; clear tg1 HM; intro w' g1 HM) | ((with_reducible apply own_load1 HM); exact rfl; exact rfl; exact tS; exact rfl) | (go_at_call 163; (with_reducible refine (either_near (s := (s.point.rd s.pointV).setOwn y (s.point.m s.pointV)) .z HM HF.out hpp 7 15).mono ?_); rintro e w' ⟨rfl, hb⟩; replace HM := Lib.hid (HM.out.call hb); clear hb))
  all_goals go_ret
  all_goals have hco := Co.ok (l := _ :: l) HM.out HG.out HX.out
  all_goals exact ⟨rfl, Lib.hid (hco.drop.less (by omega))⟩
set_option maxRecDepth 100000 in
set_option maxHeartbeats 1600000 in
theorem move_to_far {W0 w : World} {c b n : Nat} {s : Cs} {l : Blocks} (x z p q : Nat) (hz : ¬ z = 6) (hp : ¬ s.px = 0) (h : Hid (Co W0 w c b s l (n + 3))) :
    Calls Tryz.prog 89 #[.pointer (some ⟨c, 0, none⟩), .agg #[.int .i64 (x : Int), .int .i64 6, .int .i64 (z : Int), .int .i64 (p : Int), .int .i64 (q : Int)]] w fun e w' => e = .returned (.int .i64 15) ∧ Hid (Co W0 w' c b (s.point.wr s.pointV (s.own z)) l n) := by
  obtain ⟨hf, hg, X, hX, hO⟩ := h.out.out
  have HF := Lib.hid hf
  have HF0 := Lib.hid hf
  have HG := Lib.hid hg
  have HX := Lib.hid hX
  have HM := Lib.hid hO
  have P1 : s.pointV < 65536 := Cs.pointV_lt hf
  have e0 : s.own z = s.point.own z := by unfold Cs.own; rw [Cs.point_one]
  have v1 : s.point.own z < 256 := by rw [← e0]; exact Cs.own_lt hf _
  rw [e0]
  have z1 : ((z : Int) == 6) = false := by simp; omega
  have hp' : ((s.px : Int) == 0) = false := by simp; omega
  have hpp : ¬ s.point.px = 0 := by rw [Cs.point_px]; exact hp
  clear e0 hz h hf hg hX hO
  have hmWrite : ∀ w : World, (method 309 28 (.pointer (some ⟨b, 0, none⟩)) "Write").run Tryz.prog w = .ok (261, .pointer (some ⟨b, 0, none⟩)) w := fun _ => by kernel_rfl
  have tg1 : Hid True := trivial
  go_enter Tryz.func89, Tryz.ntmps89
  go_upto_region 5 with (first
    | ((with_reducible apply own_cell1 HM); exact rfl; exact rfl; exact dS; exact rfl)
    | ((with_reducible apply cgY HM); exact cgS) | ((with_reducible apply cpY HM); exact cpS; clear HM; intro w' HM) | ((with_reducible apply crY HM); exact crS) | ((with_reducible apply clY HM); exact clS; clear HM; intro w' HM)
    | ((with_reducible apply own_box1 HM); exact rfl; (conv => lhs; whnf); exact rfl; exact rfl; clear tg1 HM; intro w' g1 HM)
    | ((with_reducible apply own_load1 HM); exact rfl; exact rfl; exact tS; exact rfl))
  have HM' := Lib.hid HM.out.drew
  clear HM; have HM := HM'; clear HM'
  have c29 := HM.out.cells_at .z 29 _ rfl
  have d2 := HM.out.cells_at (.s .z) 2 _ rfl
  go_region_held3 (fun w' => w'.cell? ⟨c, 29, none⟩ = some (.iface 28 (.pointer (some ⟨b, 0, none⟩))) ∧ w'.cell? ⟨g1, 2, none⟩ = some (.int .i64 (z : Int))) (first | assumption | (simp only [*]; trivial) | simp [*]) (first
    | (go_at_call 81; have hco := Lib.hid (Co.ok (l := _ :: l) HM.out HG.out HX.out); (with_reducible refine (pointed_at hco).mono ?_); clear hco; rintro e w' ⟨rfl, hc⟩; clear HM HF HG HX; obtain ⟨X, HF, HG, HX, HM⟩ := hc.out.hid1; clear hc; have c29 := HM.out.cells_at .z 29 _ rfl; have d2 := HM.out.cells_at (.s .z) 2 _ rfl)
    | (go_at_call 162; (with_reducible refine (cown_q .z HM HF.out _).mono ?_); rintro e w' ⟨rfl, hb⟩; replace HM := Lib.hid (HM.out.call hb); clear hb; have c29 := HM.out.cells_at .z 29 _ rfl; have d2 := HM.out.cells_at (.s .z) 2 _ rfl)
    | (go_at_call 261; have hco := Lib.hid (Co.ok (l := _ :: l) HM.out HG.out HX.out); (with_reducible refine (wr_at _ _ P1 v1 hco).mono ?_); clear hco; rintro e w' ⟨rfl, hc⟩; clear HM HF HG HX; obtain ⟨X, HF, HG, HX, HM⟩ := hc.out.hid1; clear hc; have c29 := HM.out.cells_at .z 29 _ rfl; have d2 := HM.out.cells_at (.s .z) 2 _ rfl))
  all_goals go_wp2_with (first | ((with_reducible apply own_cell1 HM); exact rfl; exact rfl; exact dS; exact rfl) | ((with_reducible apply cgY HM); exact cgS) | ((with_reducible apply cpY HM); exact cpS; clear HM; intro w' HM) | ((with_reducible apply crY HM); exact crS) | ((with_reducible apply clY HM); exact clS; clear HM; intro w' HM) | ((with_reducible apply own_box1 HM); exact rfl; (conv => lhs; whnf); exact rfl; exact rfl; clear tg1 HM; intro w' g1 HM) | ((with_reducible apply own_load1 HM); exact rfl; exact rfl; exact tS; exact rfl) | (go_at_call 163; (with_reducible refine (either_far (s := s.point.wr s.pointV (s.point.own z)) .z HM HF.out hpp 7 15).mono ?_); rintro e w' ⟨rfl, hb⟩; replace HM := Lib.hid (HM.out.call hb); clear hb))
  all_goals go_ret
  all_goals have hco := Co.ok (l := _ :: l) HM.out HG.out HX.out
  all_goals exact ⟨rfl, Lib.hid (hco.drop.less (by omega))⟩
set_option maxRecDepth 100000 in
set_option maxHeartbeats 1600000 in
theorem move_from_far {W0 w : World} {c b n : Nat} {s : Cs} {l : Blocks} (x y p q : Nat) (hy : ¬ y = 6) (hp : ¬ s.px = 0) (h : Hid (Co W0 w c b s l (n + 3))) :
    Calls Tryz.prog 89 #[.pointer (some ⟨c, 0, none⟩), .agg #[.int .i64 (x : Int), .int .i64 (y : Int), .int .i64 6, .int .i64 (p : Int), .int .i64 (q : Int)]] w fun e w' => e = .returned (.int .i64 15) ∧ Hid (Co W0 w' c b ((s.point.rd s.pointV).setOwn y (s.m s.pointV)) l n) := by
  rw [show s.m s.pointV = s.point.m s.pointV by rw [Cs.point_m]]
  obtain ⟨hf, hg, X, hX, hO⟩ := h.out.out
  have HF := Lib.hid hf
  have HF0 := Lib.hid hf
  have HG := Lib.hid hg
  have HX := Lib.hid hX
  have HM := Lib.hid hO
  have P1 : s.pointV < 65536 := Cs.pointV_lt hf
  have v1 : s.point.m s.pointV < 256 := by rw [Cs.point_m]; exact hf.m _
  have y1 : ((y : Int) == 6) = false := by simp; omega
  have hp' : ((s.px : Int) == 0) = false := by simp; omega
  have hpp : ¬ ((s.point.rd s.pointV).setOwn y (s.point.m s.pointV)).px = 0 := by show ¬ s.point.px = 0; rw [Cs.point_px]; exact hp
  clear hy h hf hg hX hO
  have hmRead : ∀ w : World, (method 309 28 (.pointer (some ⟨b, 0, none⟩)) "Read").run Tryz.prog w = .ok (260, .pointer (some ⟨b, 0, none⟩)) w := fun _ => by kernel_rfl
  have tg1 : Hid True := trivial
  go_enter Tryz.func89, Tryz.ntmps89
  go_upto_region 8 with (first
    | ((with_reducible apply own_cell1 HM); exact rfl; exact rfl; exact dS; exact rfl)
    | ((with_reducible apply cgY HM); exact cgS) | ((with_reducible apply cpY HM); exact cpS; clear HM; intro w' HM) | ((with_reducible apply crY HM); exact crS) | ((with_reducible apply clY HM); exact clS; clear HM; intro w' HM)
    | ((with_reducible apply own_box1 HM); exact rfl; (conv => lhs; whnf); exact rfl; exact rfl; clear tg1 HM; intro w' g1 HM)
    | ((with_reducible apply own_load1 HM); exact rfl; exact rfl; exact tS; exact rfl))
  have HM' := Lib.hid HM.out.drew
  clear HM; have HM := HM'; clear HM'
  have c29 := HM.out.cells_at .z 29 _ rfl
  have d1 := HM.out.cells_at (.s .z) 1 _ rfl
  go_region_held3 (fun w' => w'.cell? ⟨c, 29, none⟩ = some (.iface 28 (.pointer (some ⟨b, 0, none⟩))) ∧ w'.cell? ⟨g1, 1, none⟩ = some (.int .i64 (y : Int))) (first | assumption | (simp only [*]; trivial) | simp [*]) (first
    | (go_at_call 81; have hco := Lib.hid (Co.ok (l := _ :: l) HM.out HG.out HX.out); (with_reducible refine (pointed_at hco).mono ?_); clear hco; rintro e w' ⟨rfl, hc⟩; clear HM HF HG HX; obtain ⟨X, HF, HG, HX, HM⟩ := hc.out.hid1; clear hc; have c29 := HM.out.cells_at .z 29 _ rfl; have d1 := HM.out.cells_at (.s .z) 1 _ rfl)
    | (go_at_call 260; have hco := Lib.hid (Co.ok (l := _ :: l) HM.out HG.out HX.out); (with_reducible refine (rd_at _ P1 hco).mono ?_); clear hco; rintro e w' ⟨rfl, hc⟩; clear HM HF HG HX; obtain ⟨X, HF, HG, HX, HM⟩ := hc.out.hid1; clear hc; have c29 := HM.out.cells_at .z 29 _ rfl; have d1 := HM.out.cells_at (.s .z) 1 _ rfl)
    | (go_at_call 142; have hco := Lib.hid (Co.ok (l := _ :: l) HM.out HG.out HX.out); (with_reducible refine (csetOwn_at _ _ v1 hco).mono ?_); clear hco; rintro e w' ⟨rfl, hc⟩; clear HM HF HG HX; obtain ⟨X, HF, HG, HX, HM⟩ := hc.out.hid1; clear hc; have c29 := HM.out.cells_at .z 29 _ rfl; have d1 := HM.out.cells_at (.s .z) 1 _ rfl))
  all_goals go_wp2_with (first | ((with_reducible apply own_cell1 HM); exact rfl; exact rfl; exact dS; exact rfl) | ((with_reducible apply cgY HM); exact cgS) | ((with_reducible apply cpY HM); exact cpS; clear HM; intro w' HM) | ((with_reducible apply crY HM); exact crS) | ((with_reducible apply clY HM); exact clS; clear HM; intro w' HM) | ((with_reducible apply own_box1 HM); exact rfl; (conv => lhs; whnf); exact rfl; exact rfl; clear tg1 HM; intro w' g1 HM) | ((with_reducible apply own_load1 HM); exact rfl; exact rfl; exact tS; exact rfl) | (go_at_call 163; (with_reducible refine (either_far (s := (s.point.rd s.pointV).setOwn y (s.point.m s.pointV)) .z HM HF.out hpp 7 15).mono ?_); rintro e w' ⟨rfl, hb⟩; replace HM := Lib.hid (HM.out.call hb); clear hb))
  all_goals go_ret
  all_goals have hco := Co.ok (l := _ :: l) HM.out HG.out HX.out
  all_goals exact ⟨rfl, Lib.hid (hco.drop.less (by omega))⟩
set_option maxRecDepth 100000 in
set_option maxHeartbeats 1600000 in
theorem move_regs {W0 w : World} {c b n : Nat} {s : Cs} {l : Blocks} (x y z p q : Nat) (hy : ¬ y = 6) (hz : ¬ z = 6) (h : Hid (Co W0 w c b s l (n))) :
    Calls Tryz.prog 89 #[.pointer (some ⟨c, 0, none⟩), .agg #[.int .i64 (x : Int), .int .i64 (y : Int), .int .i64 (z : Int), .int .i64 (p : Int), .int .i64 (q : Int)]] w fun e w' => e = .returned (.int .i64 4) ∧ Hid (Co W0 w' c b (s.setOne y (s.one z)) l n) := by
  obtain ⟨hf, hg, X, hX, hO⟩ := h.out.out
  have HF := Lib.hid hf
  have HF0 := Lib.hid hf
  have HG := Lib.hid hg
  have HX := Lib.hid hX
  have HM := Lib.hid hO
  have v1 : s.one z < 256 := Cs.one_lt hf _
  have y1 : ((y : Int) == 6) = false := by simp; omega
  have z1 : ((z : Int) == 6) = false := by simp; omega
  clear hy hz h hf hg hX hO
  have tg1 : Hid True := trivial
  go_enter Tryz.func89, Tryz.ntmps89
  go_upto_region 10 with (first
    | ((with_reducible apply own_cell1 HM); exact rfl; exact rfl; exact dS; exact rfl)
    | ((with_reducible apply cgY HM); exact cgS) | ((with_reducible apply cpY HM); exact cpS; clear HM; intro w' HM) | ((with_reducible apply crY HM); exact crS) | ((with_reducible apply clY HM); exact clS; clear HM; intro w' HM)
    | ((with_reducible apply own_box1 HM); exact rfl; (conv => lhs; whnf); exact rfl; exact rfl; clear tg1 HM; intro w' g1 HM)
    | ((with_reducible apply own_load1 HM); exact rfl; exact rfl; exact tS; exact rfl))
  (refine own_tail 7 HM (by kernel_rfl) (by kernel_rfl) (by kernel_rfl) ?_; simp only [List.take_succ_cons, List.take_zero, List.drop_succ_cons, List.drop_zero]; (try simp only [Act.put, List.setIfInBounds_toArray, List.set_cons_zero, List.set_cons_succ]); repeat ((fail_if_success (with_reducible refine wpQuiet_nil ?_)); first | go_big_quiet_skip | (go_big_quiet_want; first | ((with_reducible apply quiet_get); exact rfl; exact wS; exact sS; exact rfl; go_big_quiet_op; go_big_quiet_on) | ((with_reducible apply quiet_load); exact rfl; (with_reducible exact aggR); exact sS; exact Cs.drop0 _ _; exact Cs.take29 _ _; go_big_quiet_op; go_big_quiet_on) | ((with_reducible apply quiet_load); exact rfl; (first | (with_reducible exact aggParts)); exact sS; exact dS; exact tS; go_big_quiet_op; go_big_quiet_on) | ((with_reducible apply quiet_cell); exact rfl; (first | (with_reducible exact oneInt)); exact sS; exact dS; go_big_quiet_op; go_big_quiet_on) | ((with_reducible apply quiet_call); exact fun w => rfl; (focus (go_simp; all_goals with_reducible rfl)); (intro wq HQ; first | (with_reducible exact cone_q .z HQ HF.out _)); go_big_quiet_op; go_big_quiet_on) | (go_big_quiet_op; go_big_quiet_on) | (go_big_quiet_op; refine ⟨_, fun _ _ => rfl, ?_⟩; go_big_quiet_on))))
  refine wpQuiet_nil ?_
  intro w' HM'
  clear HM; have HM := HM'; clear HM'
  go_wp2_with (first
    | ((with_reducible apply own_cell1 HM); exact rfl; exact rfl; exact dS; exact rfl)
    | ((with_reducible apply cgY HM); exact cgS) | ((with_reducible apply cpY HM); exact cpS; clear HM; intro w' HM) | ((with_reducible apply crY HM); exact crS) | ((with_reducible apply clY HM); exact clS; clear HM; intro w' HM)
    | ((with_reducible apply own_box1 HM); exact rfl; (conv => lhs; whnf); exact rfl; exact rfl; clear tg1 HM; intro w' g1 HM)
    | ((with_reducible apply own_load1 HM); exact rfl; exact rfl; exact tS; exact rfl)
    | (go_at_call 86; have hco := Lib.hid (Co.ok (l := _ :: l) HM.out HG.out HX.out); (with_reducible refine (csetOne_at _ _ v1 hco).mono ?_); clear hco; rintro e w' ⟨rfl, hc⟩; clear HM HF HG HX; obtain ⟨X, HF, HG, HX, HM⟩ := hc.out.hid1; clear hc))
  go_ret
  have hco := Co.ok (l := _ :: l) HM.out HG.out HX.out
  exact ⟨rfl, Lib.hid hco.drop⟩
end Go.Proofs.YtljjgakfnajifaaGreatDoor
