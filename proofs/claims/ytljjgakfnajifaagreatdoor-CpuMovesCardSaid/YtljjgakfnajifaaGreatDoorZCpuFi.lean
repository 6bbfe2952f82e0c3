import Derived.Test.YtljjgakfnajifaaGreatDoorZCpuNo
import Derived.Test.YtljjgakfnajifaaGreatDoorZCpuP
import Derived.Deep.Cut
import Derived.Deep.RegionHeld3
import Derived.Deep.CutRange
namespace Go.Proofs.YtljjgakfnajifaaGreatDoor
open Go.RowKit
set_option maxRecDepth 100000 in
set_option maxHeartbeats 800000 in
theorem plainFirst_0 {W0 w : World} {c b n : Nat} {s : Cs} {l : Blocks} (x y z p q : Nat) (hz : z = 0) (hT : Hid (Tabs W0)) (hy : y < 8) (h : Hid (Co W0 w c b s l (n + 4))) :
    Calls Tryz.prog 88 #[.pointer (some ⟨c, 0, none⟩), .agg #[.int .i64 (x : Int), .int .i64 (y : Int), .int .i64 (z : Int), .int .i64 (p : Int), .int .i64 (q : Int)]] w fun e w' => e = .returned (.int .i64 ((s.startsC y : Nat) : Int)) ∧ Hid (Co W0 w' c b (s.starts y) l n) := by
  obtain ⟨hf, hg, X, hX, hO⟩ := h.out.out
  have HF := Lib.hid hf
  have HF0 := Lib.hid hf
  have HG := Lib.hid hg
  have HX := Lib.hid hX
  have HM := Lib.hid hO
  have z0 : ((z : Int) == 0) = true := by rw [hz]; rfl
  have z1 : ((z : Int) == 1) = false := by rw [hz]; rfl
  have z2 : ((z : Int) == 2) = false := by rw [hz]; rfl
  have z3 : ((z : Int) == 3) = false := by rw [hz]; rfl
  have z4 : ((z : Int) == 4) = false := by rw [hz]; rfl
  have z5 : ((z : Int) == 5) = false := by rw [hz]; rfl
  have z6 : ((z : Int) == 6) = false := by rw [hz]; rfl
  have z7 : ((z : Int) == 7) = false := by rw [hz]; rfl
  clear h hf hg hX hO
  have tg1 : Hid True := trivial
  go_enter Tryz.func88, Tryz.ntmps88
  go_wp2_with (first
    | ((with_reducible apply own_cell1 HM); exact rfl; exact rfl; exact dS; exact rfl)
    | ((with_reducible apply cgY HM); exact cgS) | ((with_reducible apply cpY HM); exact cpS; clear HM; intro w' HM) | ((with_reducible apply crY HM); exact crS) | ((with_reducible apply clY HM); exact clS; clear HM; intro w' HM)
    | ((with_reducible apply own_box1 HM); exact rfl; (conv => lhs; whnf); exact rfl; exact rfl; clear tg1 HM; intro w' g1 HM)
    | ((with_reducible apply own_load1 HM); exact rfl; exact rfl; exact tS; exact rfl)
    | (go_at_call 151; have hco := Lib.hid (Co.ok (l := _ :: l) HM.out HG.out HX.out); (with_reducible refine (starts_at hT y hy hco).mono ?_); clear hco; rintro e w' ⟨rfl, hc⟩; clear HM HF HG HX; obtain ⟨X, HF, HG, HX, HM⟩ := hc.out.hid1; clear hc))
  go_ret
  have hco := Co.ok (l := _ :: l) HM.out HG.out HX.out
  exact ⟨rfl, Lib.hid (hco.drop.less (by omega))⟩
set_option maxRecDepth 100000 in
set_option maxHeartbeats 800000 in
theorem plainFirst_1n {W0 w : World} {c b n : Nat} {s : Cs} {l : Blocks} (x y z p : Nat) (hz : z = 1) (h : Hid (Co W0 w c b s l (n + 4))) :
    Calls Tryz.prog 88 #[.pointer (some ⟨c, 0, none⟩), .agg #[.int .i64 (x : Int), .int .i64 (y : Int), .int .i64 (z : Int), .int .i64 (p : Int), .int .i64 0]] w fun e w' => e = .returned (.int .i64 10) ∧ Hid (Co W0 w' c b (s.nextNum.setPair (p : Nat) s.nextNumV) l n) := by
  obtain ⟨hf, hg, X, hX, hO⟩ := h.out.out
  have HF := Lib.hid hf
  have HF0 := Lib.hid hf
  have HG := Lib.hid hg
  have HX := Lib.hid hX
  have HM := Lib.hid hO
  have z0 : ((z : Int) == 0) = false := by rw [hz]; rfl
  have z1 : ((z : Int) == 1) = true := by rw [hz]; rfl
  have z2 : ((z : Int) == 2) = false := by rw [hz]; rfl
  have z3 : ((z : Int) == 3) = false := by rw [hz]; rfl
  have z4 : ((z : Int) == 4) = false := by rw [hz]; rfl
  have z5 : ((z : Int) == 5) = false := by rw [hz]; rfl
  have z6 : ((z : Int) == 6) = false := by rw [hz]; rfl
  have z7 : ((z : Int) == 7) = false := by rw [hz]; rfl
  have N1 : s.nextNumV < 65536 := Cs.numV_lt hf _
  clear h hf hg hX hO
  have tg1 : Hid True := trivial
  go_enter Tryz.func88, Tryz.ntmps88
  go_upto_region 6 with (first
    | ((with_reducible apply own_cell1 HM); exact rfl; exact rfl; exact dS; exact rfl)
    | ((with_reducible apply cgY HM); exact cgS) | ((with_reducible apply cpY HM); exact cpS; clear HM; intro w' HM) | ((with_reducible apply crY HM); exact crS) | ((with_reducible apply clY HM); exact clS; clear HM; intro w' HM)
    | ((with_reducible apply own_box1 HM); exact rfl; (conv => lhs; whnf); exact rfl; exact rfl; clear tg1 HM; intro w' g1 HM)
    | ((with_reducible apply own_load1 HM); exact rfl; exact rfl; exact tS; exact rfl))
  have HM' := Lib.hid HM.out.drew
  clear HM; have HM := HM'; clear HM'
  have d1 := HM.out.cells_at (.s .z) 3 _ rfl
  go_region_held3 (fun w' => w'.cell? ⟨g1, 3, none⟩ = some (.int .i64 (p : Int))) (first | assumption | (simp only [*]; trivial) | simp [*]) (first
    | (go_at_call 153; have hco := Lib.hid (Co.ok (l := _ :: l) HM.out HG.out HX.out); (with_reducible refine (nextNumber_at (n := n + 2) hco).mono ?_); clear hco; rintro e w' ⟨rfl, hc⟩; clear HM HF HG HX; obtain ⟨X, HF, HG, HX, HM⟩ := hc.out.hid1; clear hc; have d1 := HM.out.cells_at (.s .z) 3 _ rfl)
    | (go_at_call 152; have hco := Lib.hid (Co.ok (l := _ :: l) HM.out HG.out HX.out); (with_reducible refine (csetPair_at _ _ N1 hco).mono ?_); clear hco; rintro e w' ⟨rfl, hc⟩; clear HM HF HG HX; obtain ⟨X, HF, HG, HX, HM⟩ := hc.out.hid1; clear hc; have d1 := HM.out.cells_at (.s .z) 3 _ rfl))
  all_goals go_wp2_with (first | ((with_reducible apply own_cell1 HM); exact rfl; exact rfl; exact dS; exact rfl) | ((with_reducible apply cgY HM); exact cgS) | ((with_reducible apply cpY HM); exact cpS; clear HM; intro w' HM) | ((with_reducible apply crY HM); exact crS) | ((with_reducible apply clY HM); exact clS; clear HM; intro w' HM) | ((with_reducible apply own_box1 HM); exact rfl; (conv => lhs; whnf); exact rfl; exact rfl; clear tg1 HM; intro w' g1 HM) | ((with_reducible apply own_load1 HM); exact rfl; exact rfl; exact tS; exact rfl))
  all_goals go_ret
  all_goals have hco := Co.ok (l := _ :: l) HM.out HG.out HX.out
  all_goals exact ⟨rfl, Lib.hid (hco.drop.less (by omega))⟩
set_option maxRecDepth 100000 in
set_option maxHeartbeats 800000 in
theorem plainFirst_1a {W0 w : World} {c b n : Nat} {s : Cs} {l : Blocks} (x y z p q : Nat) (hz : z = 1) (hq : ¬ q = 0) (h : Hid (Co W0 w c b s l (n + 4))) :
    Calls Tryz.prog 88 #[.pointer (some ⟨c, 0, none⟩), .agg #[.int .i64 (x : Int), .int .i64 (y : Int), .int .i64 (z : Int), .int .i64 (p : Int), .int .i64 (q : Int)]] w fun e w' => e = .returned (.int .i64 11) ∧ Hid (Co W0 w' c b (s.addPair (p : Nat)) l n) := by
  obtain ⟨hf, hg, X, hX, hO⟩ := h.out.out
  have HF := Lib.hid hf
  have HF0 := Lib.hid hf
  have HG := Lib.hid hg
  have HX := Lib.hid hX
  have HM := Lib.hid hO
  have z0 : ((z : Int) == 0) = false := by rw [hz]; rfl
  have z1 : ((z : Int) == 1) = true := by rw [hz]; rfl
  have z2 : ((z : Int) == 2) = false := by rw [hz]; rfl
  have z3 : ((z : Int) == 3) = false := by rw [hz]; rfl
  have z4 : ((z : Int) == 4) = false := by rw [hz]; rfl
  have z5 : ((z : Int) == 5) = false := by rw [hz]; rfl
  have z6 : ((z : Int) == 6) = false := by rw [hz]; rfl
  have z7 : ((z : Int) == 7) = false := by rw [hz]; rfl
  have q0 : ((q : Int) == 0) = false := by simp; omega
  clear h hf hg hX hO
  have tg1 : Hid True := trivial
  go_enter Tryz.func88, Tryz.ntmps88
  go_wp2_with (first
    | ((with_reducible apply own_cell1 HM); exact rfl; exact rfl; exact dS; exact rfl)
    | ((with_reducible apply cgY HM); exact cgS) | ((with_reducible apply cpY HM); exact cpS; clear HM; intro w' HM) | ((with_reducible apply crY HM); exact crS) | ((with_reducible apply clY HM); exact clS; clear HM; intro w' HM)
    | ((with_reducible apply own_box1 HM); exact rfl; (conv => lhs; whnf); exact rfl; exact rfl; clear tg1 HM; intro w' g1 HM)
    | ((with_reducible apply own_load1 HM); exact rfl; exact rfl; exact tS; exact rfl)
    | (go_at_call 154; have hco := Lib.hid (Co.ok (l := _ :: l) HM.out HG.out HX.out); (with_reducible refine (addPair_at _ hco).mono ?_); clear hco; rintro e w' ⟨rfl, hc⟩; clear HM HF HG HX; obtain ⟨X, HF, HG, HX, HM⟩ := hc.out.hid1; clear hc))
  go_ret
  have hco := Co.ok (l := _ :: l) HM.out HG.out HX.out
  exact ⟨rfl, Lib.hid (hco.drop.less (by omega))⟩
set_option maxRecDepth 100000 in
set_option maxHeartbeats 800000 in
theorem plainFirst_2 {W0 w : World} {c b n : Nat} {s : Cs} {l : Blocks} (y p q : Nat) (hy : y < 8) (hp : y / 2 = p) (hq : y % 2 = q) (h : Hid (Co W0 w c b s l (n + 4))) :
    Calls Tryz.prog 88 #[.pointer (some ⟨c, 0, none⟩), .agg #[.int .i64 0, .int .i64 (y : Int), .int .i64 2, .int .i64 (p : Int), .int .i64 (q : Int)]] w fun e w' => e = .returned (.int .i64 ((Cs.moveFarC y : Nat) : Int)) ∧ Hid (Co W0 w' c b (s.moveFar y) l n) := by
  obtain ⟨hf, hg, X, hX, hO⟩ := h.out.out
  have HF := Lib.hid hf
  have HF0 := Lib.hid hf
  have HG := Lib.hid hg
  have HX := Lib.hid hX
  have HM := Lib.hid hO
  clear h hf hg hX hO
  have tg1 : Hid True := trivial
  go_enter Tryz.func88, Tryz.ntmps88
  go_wp2_with (first
    | ((with_reducible apply own_cell1 HM); exact rfl; exact rfl; exact dS; exact rfl)
    | ((with_reducible apply cgY HM); exact cgS) | ((with_reducible apply cpY HM); exact cpS; clear HM; intro w' HM) | ((with_reducible apply crY HM); exact crS) | ((with_reducible apply clY HM); exact clS; clear HM; intro w' HM)
    | ((with_reducible apply own_box1 HM); exact rfl; (conv => lhs; whnf); exact rfl; exact rfl; clear tg1 HM; intro w' g1 HM)
    | ((with_reducible apply own_load1 HM); exact rfl; exact rfl; exact tS; exact rfl)
    | (go_at_call 155; have hco := Lib.hid (Co.ok (l := _ :: l) HM.out HG.out HX.out); (with_reducible refine (moveFar_at y p q hy hp hq hco).mono ?_); clear hco; rintro e w' ⟨rfl, hc⟩; clear HM HF HG HX; obtain ⟨X, HF, HG, HX, HM⟩ := hc.out.hid1; clear hc))
  go_ret
  have hco := Co.ok (l := _ :: l) HM.out HG.out HX.out
  exact ⟨rfl, Lib.hid (hco.drop.less (by omega))⟩
set_option maxRecDepth 100000 in
set_option maxHeartbeats 800000 in
theorem plainFirst_3 {W0 w : World} {c b n : Nat} {s : Cs} {l : Blocks} (x y p q : Nat) (hp : y / 2 = p) (hq : y % 2 = q) (h : Hid (Co W0 w c b s l (n + 4))) :
    Calls Tryz.prog 88 #[.pointer (some ⟨c, 0, none⟩), .agg #[.int .i64 (x : Int), .int .i64 (y : Int), .int .i64 3, .int .i64 (p : Int), .int .i64 (q : Int)]] w fun e w' => e = .returned (.int .i64 6) ∧ Hid (Co W0 w' c b (s.countPair y) l n) := by
  obtain ⟨hf, hg, X, hX, hO⟩ := h.out.out
  have HF := Lib.hid hf
  have HF0 := Lib.hid hf
  have HG := Lib.hid hg
  have HX := Lib.hid hX
  have HM := Lib.hid hO
  clear h hf hg hX hO
  have tg1 : Hid True := trivial
  go_enter Tryz.func88, Tryz.ntmps88
  go_wp2_with (first
    | ((with_reducible apply own_cell1 HM); exact rfl; exact rfl; exact dS; exact rfl)
    | ((with_reducible apply cgY HM); exact cgS) | ((with_reducible apply cpY HM); exact cpS; clear HM; intro w' HM) | ((with_reducible apply crY HM); exact crS) | ((with_reducible apply clY HM); exact clS; clear HM; intro w' HM)
    | ((with_reducible apply own_box1 HM); exact rfl; (conv => lhs; whnf); exact rfl; exact rfl; clear tg1 HM; intro w' g1 HM)
    | ((with_reducible apply own_load1 HM); exact rfl; exact rfl; exact tS; exact rfl)
    | (go_at_call 156; have hco := Lib.hid (Co.ok (l := _ :: l) HM.out HG.out HX.out); (with_reducible refine (countPair_at x y p q hp hq hco).mono ?_); clear hco; rintro e w' ⟨rfl, hc⟩; clear HM HF HG HX; obtain ⟨X, HF, HG, HX, HM⟩ := hc.out.hid1; clear hc))
  go_ret
  have hco := Co.ok (l := _ :: l) HM.out HG.out HX.out
  exact ⟨rfl, Lib.hid (hco.drop.less (by omega))⟩
set_option maxRecDepth 100000 in
set_option maxHeartbeats 800000 in
theorem plainFirst_4 {W0 w : World} {c b n : Nat} {s : Cs} {l : Blocks} (x y z p q : Nat) (hz : z = 4) (h : Hid (Co W0 w c b s l (n + 4))) :
    Calls Tryz.prog 88 #[.pointer (some ⟨c, 0, none⟩), .agg #[.int .i64 (x : Int), .int .i64 (y : Int), .int .i64 (z : Int), .int .i64 (p : Int), .int .i64 (q : Int)]] w fun e w' => e = .returned (.int .i64 ((s.countC y : Nat) : Int)) ∧ Hid (Co W0 w' c b (s.count (y : Int) false) l n) := by
  obtain ⟨hf, hg, X, hX, hO⟩ := h.out.out
  have HF := Lib.hid hf
  have HF0 := Lib.hid hf
  have HG := Lib.hid hg
  have HX := Lib.hid hX
  have HM := Lib.hid hO
  have z0 : ((z : Int) == 0) = false := by rw [hz]; rfl
  have z1 : ((z : Int) == 1) = false := by rw [hz]; rfl
  have z2 : ((z : Int) == 2) = false := by rw [hz]; rfl
  have z3 : ((z : Int) == 3) = false := by rw [hz]; rfl
  have z4 : ((z : Int) == 4) = true := by rw [hz]; rfl
  have z5 : ((z : Int) == 5) = false := by rw [hz]; rfl
  have z6 : ((z : Int) == 6) = false := by rw [hz]; rfl
  have z7 : ((z : Int) == 7) = false := by rw [hz]; rfl
  clear h hf hg hX hO
  have tg1 : Hid True := trivial
  go_enter Tryz.func88, Tryz.ntmps88
  go_wp2_with (first
    | ((with_reducible apply own_cell1 HM); exact rfl; exact rfl; exact dS; exact rfl)
    | ((with_reducible apply cgY HM); exact cgS) | ((with_reducible apply cpY HM); exact cpS; clear HM; intro w' HM) | ((with_reducible apply crY HM); exact crS) | ((with_reducible apply clY HM); exact clS; clear HM; intro w' HM)
    | ((with_reducible apply own_box1 HM); exact rfl; (conv => lhs; whnf); exact rfl; exact rfl; clear tg1 HM; intro w' g1 HM)
    | ((with_reducible apply own_load1 HM); exact rfl; exact rfl; exact tS; exact rfl)
    | (go_at_call 157; have hco := Lib.hid (Co.ok (l := _ :: l) HM.out HG.out HX.out); (with_reducible refine (count_at_Inc y hco).mono ?_); clear hco; rintro e w' ⟨rfl, hc⟩; clear HM HF HG HX; obtain ⟨X, HF, HG, HX, HM⟩ := hc.out.hid1; clear hc))
  go_ret
  have hco := Co.ok (l := _ :: l) HM.out HG.out HX.out
  exact ⟨rfl, Lib.hid (hco.drop.less (by omega))⟩
set_option maxRecDepth 100000 in
set_option maxHeartbeats 800000 in
theorem plainFirst_5 {W0 w : World} {c b n : Nat} {s : Cs} {l : Blocks} (x y z p q : Nat) (hz : z = 5) (h : Hid (Co W0 w c b s l (n + 4))) :
    Calls Tryz.prog 88 #[.pointer (some ⟨c, 0, none⟩), .agg #[.int .i64 (x : Int), .int .i64 (y : Int), .int .i64 (z : Int), .int .i64 (p : Int), .int .i64 (q : Int)]] w fun e w' => e = .returned (.int .i64 ((s.countC y : Nat) : Int)) ∧ Hid (Co W0 w' c b (s.count (y : Int) true) l n) := by
  obtain ⟨hf, hg, X, hX, hO⟩ := h.out.out
  have HF := Lib.hid hf
  have HF0 := Lib.hid hf
  have HG := Lib.hid hg
  have HX := Lib.hid hX
  have HM := Lib.hid hO
  have z0 : ((z : Int) == 0) = false := by rw [hz]; rfl
  have z1 : ((z : Int) == 1) = false := by rw [hz]; rfl
  have z2 : ((z : Int) == 2) = false := by rw [hz]; rfl
  have z3 : ((z : Int) == 3) = false := by rw [hz]; rfl
  have z4 : ((z : Int) == 4) = false := by rw [hz]; rfl
  have z5 : ((z : Int) == 5) = true := by rw [hz]; rfl
  have z6 : ((z : Int) == 6) = false := by rw [hz]; rfl
  have z7 : ((z : Int) == 7) = false := by rw [hz]; rfl
  clear h hf hg hX hO
  have tg1 : Hid True := trivial
  go_enter Tryz.func88, Tryz.ntmps88
  go_wp2_with (first
    | ((with_reducible apply own_cell1 HM); exact rfl; exact rfl; exact dS; exact rfl)
    | ((with_reducible apply cgY HM); exact cgS) | ((with_reducible apply cpY HM); exact cpS; clear HM; intro w' HM) | ((with_reducible apply crY HM); exact crS) | ((with_reducible apply clY HM); exact clS; clear HM; intro w' HM)
    | ((with_reducible apply own_box1 HM); exact rfl; (conv => lhs; whnf); exact rfl; exact rfl; clear tg1 HM; intro w' g1 HM)
    | ((with_reducible apply own_load1 HM); exact rfl; exact rfl; exact tS; exact rfl)
    | (go_at_call 157; have hco := Lib.hid (Co.ok (l := _ :: l) HM.out HG.out HX.out); (with_reducible refine (count_at_Dec y hco).mono ?_); clear hco; rintro e w' ⟨rfl, hc⟩; clear HM HF HG HX; obtain ⟨X, HF, HG, HX, HM⟩ := hc.out.hid1; clear hc))
  go_ret
  have hco := Co.ok (l := _ :: l) HM.out HG.out HX.out
  exact ⟨rfl, Lib.hid (hco.drop.less (by omega))⟩
set_option maxRecDepth 100000 in
set_option maxHeartbeats 800000 in
theorem plainFirst_6 {W0 w : World} {c b n : Nat} {s : Cs} {l : Blocks} (x y z p q : Nat) (hz : z = 6) (h : Hid (Co W0 w c b s l (n + 4))) :
    Calls Tryz.prog 88 #[.pointer (some ⟨c, 0, none⟩), .agg #[.int .i64 (x : Int), .int .i64 (y : Int), .int .i64 (z : Int), .int .i64 (p : Int), .int .i64 (q : Int)]] w fun e w' => e = .returned (.int .i64 ((s.moveNextC y : Nat) : Int)) ∧ Hid (Co W0 w' c b (s.moveNext y) l n) := by
  obtain ⟨hf, hg, X, hX, hO⟩ := h.out.out
  have HF := Lib.hid hf
  have HF0 := Lib.hid hf
  have HG := Lib.hid hg
  have HX := Lib.hid hX
  have HM := Lib.hid hO
  have z0 : ((z : Int) == 0) = false := by rw [hz]; rfl
  have z1 : ((z : Int) == 1) = false := by rw [hz]; rfl
  have z2 : ((z : Int) == 2) = false := by rw [hz]; rfl
  have z3 : ((z : Int) == 3) = false := by rw [hz]; rfl
  have z4 : ((z : Int) == 4) = false := by rw [hz]; rfl
  have z5 : ((z : Int) == 5) = false := by rw [hz]; rfl
  have z6 : ((z : Int) == 6) = true := by rw [hz]; rfl
  have z7 : ((z : Int) == 7) = false := by rw [hz]; rfl
  clear h hf hg hX hO
  have tg1 : Hid True := trivial
  go_enter Tryz.func88, Tryz.ntmps88
  go_wp2_with (first
    | ((with_reducible apply own_cell1 HM); exact rfl; exact rfl; exact dS; exact rfl)
    | ((with_reducible apply cgY HM); exact cgS) | ((with_reducible apply cpY HM); exact cpS; clear HM; intro w' HM) | ((with_reducible apply crY HM); exact crS) | ((with_reducible apply clY HM); exact clS; clear HM; intro w' HM)
    | ((with_reducible apply own_box1 HM); exact rfl; (conv => lhs; whnf); exact rfl; exact rfl; clear tg1 HM; intro w' g1 HM)
    | ((with_reducible apply own_load1 HM); exact rfl; exact rfl; exact tS; exact rfl)
    | (go_at_call 160; have hco := Lib.hid (Co.ok (l := _ :: l) HM.out HG.out HX.out); (with_reducible refine (moveNext_at y hco).mono ?_); clear hco; rintro e w' ⟨rfl, hc⟩; clear HM HF HG HX; obtain ⟨X, HF, HG, HX, HM⟩ := hc.out.hid1; clear hc))
  go_ret
  have hco := Co.ok (l := _ :: l) HM.out HG.out HX.out
  exact ⟨rfl, Lib.hid (hco.drop.less (by omega))⟩
set_option maxRecDepth 100000 in
set_option maxHeartbeats 800000 in
theorem plainFirst_7 {W0 w : World} {c b n : Nat} {s : Cs} {l : Blocks} (x y z p q : Nat) (hz : z = 7) (hy : y < 8) (h : Hid (Co W0 w c b s l (n + 4))) :
    Calls Tryz.prog 88 #[.pointer (some ⟨c, 0, none⟩), .agg #[.int .i64 (x : Int), .int .i64 (y : Int), .int .i64 (z : Int), .int .i64 (p : Int), .int .i64 (q : Int)]] w fun e w' => e = .returned (.int .i64 4) ∧ Hid (Co W0 w' c b (s.quick y) l n) := by
  obtain ⟨hf, hg, X, hX, hO⟩ := h.out.out
  have HF := Lib.hid hf
  have HF0 := Lib.hid hf
  have HG := Lib.hid hg
  have HX := Lib.hid hX
  have HM := Lib.hid hO
  have z0 : ((z : Int) == 0) = false := by rw [hz]; rfl
  have z1 : ((z : Int) == 1) = false := by rw [hz]; rfl
  have z2 : ((z : Int) == 2) = false := by rw [hz]; rfl
  have z3 : ((z : Int) == 3) = false := by rw [hz]; rfl
  have z4 : ((z : Int) == 4) = false := by rw [hz]; rfl
  have z5 : ((z : Int) == 5) = false := by rw [hz]; rfl
  have z6 : ((z : Int) == 6) = false := by rw [hz]; rfl
  have z7 : ((z : Int) == 7) = true := by rw [hz]; rfl
  clear h hf hg hX hO
  have tg1 : Hid True := trivial
  go_enter Tryz.func88, Tryz.ntmps88
  go_wp2_with (first
    | ((with_reducible apply own_cell1 HM); exact rfl; exact rfl; exact dS; exact rfl)
    | ((with_reducible apply cgY HM); exact cgS) | ((with_reducible apply cpY HM); exact cpS; clear HM; intro w' HM) | ((with_reducible apply crY HM); exact crS) | ((with_reducible apply clY HM); exact clS; clear HM; intro w' HM)
    | ((with_reducible apply own_box1 HM); exact rfl; (conv => lhs; whnf); exact rfl; exact rfl; clear tg1 HM; intro w' g1 HM)
    | ((with_reducible apply own_load1 HM); exact rfl; exact rfl; exact tS; exact rfl)
    | (go_at_call 161; have hco := Lib.hid (Co.ok (l := _ :: l) HM.out HG.out HX.out); (with_reducible refine (cquick_at y hy hco).mono ?_); clear hco; rintro e w' ⟨rfl, hc⟩; clear HM HF HG HX; obtain ⟨X, HF, HG, HX, HM⟩ := hc.out.hid1; clear hc))
  go_ret
  have hco := Co.ok (l := _ :: l) HM.out HG.out HX.out
  exact ⟨rfl, Lib.hid (hco.drop.less (by omega))⟩
set_option maxRecDepth 100000 in
theorem plainFirst_at {W0 w : World} {c b n : Nat} {s : Cs} {l : Blocks} (hT : Hid (Tabs W0)) (x y z p q : Nat) (hx : x = 0) (hy : y < 8) (hz : z < 8) (hp : y / 2 = p) (hq : y % 2 = q) (h : Hid (Co W0 w c b s l (n + 4))) :
    Calls Tryz.prog 88 #[.pointer (some ⟨c, 0, none⟩), .agg #[.int .i64 (x : Int), .int .i64 (y : Int), .int .i64 (z : Int), .int .i64 (p : Int), .int .i64 (q : Int)]] w fun e w' => e = .returned (.int .i64 ((s.plain0C y z : Nat) : Int)) ∧ Hid (Co W0 w' c b (s.plain0 y z) l n) := by
  by_cases h0 : z = 0
  · have e2 : s.plain0 y z = s.starts y := if_pos (by omega)
    have e3 : s.plain0C y z = s.startsC y := if_pos (by omega)
    rw [e2, e3]; exact plainFirst_0 x y z p q h0 hT hy h
  by_cases h2 : z = 2
  · have e2 : s.plain0 y z = s.moveFar y := (if_neg (by omega)).trans ((if_neg (by omega)).trans (if_pos (by omega)))
    have e3 : s.plain0C y z = Cs.moveFarC y := (if_neg (by omega)).trans ((if_neg (by omega)).trans (if_pos (by omega)))
    rw [e2, e3]; subst hx h2; rw [show ((0 : Nat) : Int) = 0 from rfl, show ((2 : Nat) : Int) = 2 from rfl]; exact plainFirst_2 y p q hy hp hq h
  by_cases h3 : z = 3
  · have e2 : s.plain0 y z = s.countPair y := (if_neg (by omega)).trans ((if_neg (by omega)).trans ((if_neg (by omega)).trans (if_pos (by omega))))
    have e3 : s.plain0C y z = 6 := (if_neg (by omega)).trans ((if_neg (by omega)).trans ((if_neg (by omega)).trans (if_pos (by omega))))
    rw [e2, e3]; subst h3; rw [show ((3 : Nat) : Int) = 3 from rfl]; exact plainFirst_3 x y p q hp hq h
  by_cases h4 : z = 4
  · have e2 : s.plain0 y z = s.count y false := (if_neg (by omega)).trans ((if_neg (by omega)).trans ((if_neg (by omega)).trans ((if_neg (by omega)).trans (if_pos (by omega)))))
    have e3 : s.plain0C y z = s.countC y := (if_neg (by omega)).trans ((if_neg (by omega)).trans ((if_neg (by omega)).trans ((if_neg (by omega)).trans (if_pos (by omega)))))
    rw [e2, e3]; exact plainFirst_4 x y z p q h4 h
  by_cases h5 : z = 5
  · have e2 : s.plain0 y z = s.count y true := (if_neg (by omega)).trans ((if_neg (by omega)).trans ((if_neg (by omega)).trans ((if_neg (by omega)).trans ((if_neg (by omega)).trans (if_pos (by omega))))))
    have e3 : s.plain0C y z = s.countC y := (if_neg (by omega)).trans ((if_neg (by omega)).trans ((if_neg (by omega)).trans ((if_neg (by omega)).trans ((if_neg (by omega)).trans (if_pos (by omega))))))
    rw [e2, e3]; exact plainFirst_5 x y z p q h5 h
  by_cases h6 : z = 6
  · have e2 : s.plain0 y z = s.moveNext y := (if_neg (by omega)).trans ((if_neg (by omega)).trans ((if_neg (by omega)).trans ((if_neg (by omega)).trans ((if_neg (by omega)).trans ((if_neg (by omega)).trans (if_pos (by omega)))))))
    have e3 : s.plain0C y z = s.moveNextC y := (if_neg (by omega)).trans ((if_neg (by omega)).trans ((if_neg (by omega)).trans ((if_neg (by omega)).trans ((if_neg (by omega)).trans ((if_neg (by omega)).trans (if_pos (by omega)))))))
    rw [e2, e3]; exact plainFirst_6 x y z p q h6 h
  by_cases h1 : z = 1
  · by_cases h8 : q = 0
    · have e2 : s.plain0 y z = s.nextNum.setPair (y / 2 : Nat) s.nextNumV := (if_neg (by omega)).trans ((if_pos h1).trans (if_pos (by omega)))
      have e3 : s.plain0C y z = 10 := (if_neg (by omega)).trans ((if_pos h1).trans (if_pos (by omega)))
      rw [e2, e3, hp]
      subst h8
      rw [show ((0 : Nat) : Int) = 0 from rfl]
      exact plainFirst_1n x y z p h1 h
    · have e2 : s.plain0 y z = s.addPair (y / 2 : Nat) := (if_neg (by omega)).trans ((if_pos h1).trans (if_neg (by omega)))
      have e3 : s.plain0C y z = 11 := (if_neg (by omega)).trans ((if_pos h1).trans (if_neg (by omega)))
      rw [e2, e3, hp]
      exact plainFirst_1a x y z p q h1 h8 h
  have h7 : z = 7 := by omega
  have e2 : s.plain0 y z = s.quick y := (if_neg (by omega)).trans ((if_neg (by omega)).trans ((if_neg (by omega)).trans ((if_neg (by omega)).trans ((if_neg (by omega)).trans ((if_neg (by omega)).trans (if_neg (by omega)))))))
  have e3 : s.plain0C y z = 4 := (if_neg (by omega)).trans ((if_neg (by omega)).trans ((if_neg (by omega)).trans ((if_neg (by omega)).trans ((if_neg (by omega)).trans ((if_neg (by omega)).trans (if_neg (by omega)))))))
  rw [e2, e3]; exact plainFirst_7 x y z p q h7 hy h
end Go.Proofs.YtljjgakfnajifaaGreatDoor
