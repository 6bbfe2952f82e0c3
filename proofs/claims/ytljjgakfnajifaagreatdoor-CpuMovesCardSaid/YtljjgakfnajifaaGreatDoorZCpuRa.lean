import Derived.Test.YtljjgakfnajifaaGreatDoorZCpuNo
import Derived.Test.YtljjgakfnajifaaGreatDoorZCpuMn2
import Derived.Test.YtljjgakfnajifaaGreatDoorZCpuFar
import Derived.Deep.Cut
import Derived.Deep.RegionHeld3
import Derived.Deep.CutRange
namespace Go.Proofs.YtljjgakfnajifaaGreatDoor
open Go.RowKit
set_option maxRecDepth 100000 in
set_option maxHeartbeats 800000 in
theorem rareOne_0 {W0 w : World} {c b n : Nat} {s : Cs} {l : Blocks} (x y z p q : Nat) (hz : z = 0) (h : Hid (Co W0 w c b s l (n + 4))) :
    Calls Tryz.prog 79 #[.pointer (some ⟨c, 0, none⟩), .agg #[.int .i64 (x : Int), .int .i64 (y : Int), .int .i64 (z : Int), .int .i64 (p : Int), .int .i64 (q : Int)]] w fun e w' => e = .returned (.int .i64 12) ∧ Hid (Co W0 w' c b (s.inOne (y : Nat)) l n) := by
  obtain ⟨hf, hg, X, hX, hO⟩ := h.out.out
  have HF := Lib.hid hf
  have HF0 := Lib.hid hf
  have HG := Lib.hid hg
  have HX := Lib.hid hX
  have HM := Lib.hid hO
  have z0 : ((z : Int) == 0) = true := by rw [hz]; rfl
  have z1 : ((z : Int) == 1) = false := by rw [hz]; rfl
  have z2 : ((z : Int) == 2) = false := by rw [hz]; rfl
  have z3 : ((z : Int) == 3) = false := by rw [hz]; rfl
  have z4 : ((z : Int) == 4) = false := by rw [hz]; rfl
  have z5 : ((z : Int) == 5) = false := by rw [hz]; rfl
  have z6 : ((z : Int) == 6) = false := by rw [hz]; rfl
  have z7 : ((z : Int) == 7) = false := by rw [hz]; rfl
  clear h hf hg hX hO
  have tg1 : Hid True := trivial
  go_enter Tryz.func79, Tryz.ntmps79
  go_wp2_with (first
    | ((with_reducible apply own_cell1 HM); exact rfl; exact rfl; exact dS; exact rfl)
    | ((with_reducible apply cgY HM); exact cgS) | ((with_reducible apply cpY HM); exact cpS; clear HM; intro w' HM) | ((with_reducible apply crY HM); exact crS) | ((with_reducible apply clY HM); exact clS; clear HM; intro w' HM)
    | ((with_reducible apply own_box1 HM); exact rfl; (conv => lhs; whnf); exact rfl; exact rfl; clear tg1 HM; intro w' g1 HM)
    | ((with_reducible apply own_load1 HM); exact rfl; exact rfl; exact tS; exact rfl)
    | (go_at_call 132; have hco := Lib.hid (Co.ok (l := _ :: l) HM.out HG.out HX.out); (with_reducible refine (inOne_at y hco).mono ?_); clear hco; rintro e w' ⟨rfl, hc⟩; clear HM HF HG HX; obtain ⟨X, HF, HG, HX, HM⟩ := hc.out.hid1; clear hc))
  go_ret
  have hco := Co.ok (l := _ :: l) HM.out HG.out HX.out
  exact ⟨rfl, Lib.hid (hco.drop.less (by omega))⟩
set_option maxRecDepth 100000 in
set_option maxHeartbeats 800000 in
theorem rareOne_1 {W0 w : World} {c b n : Nat} {s : Cs} {l : Blocks} (x y z p q : Nat) (hz : z = 1) (h : Hid (Co W0 w c b s l (n + 4))) :
    Calls Tryz.prog 79 #[.pointer (some ⟨c, 0, none⟩), .agg #[.int .i64 (x : Int), .int .i64 (y : Int), .int .i64 (z : Int), .int .i64 (p : Int), .int .i64 (q : Int)]] w fun e w' => e = .returned (.int .i64 12) ∧ Hid (Co W0 w' c b (s.outOne (y : Nat)) l n) := by
  obtain ⟨hf, hg, X, hX, hO⟩ := h.out.out
  have HF := Lib.hid hf
  have HF0 := Lib.hid hf
  have HG := Lib.hid hg
  have HX := Lib.hid hX
  have HM := Lib.hid hO
  have z0 : ((z : Int) == 0) = false := by rw [hz]; rfl
  have z1 : ((z : Int) == 1) = true := by rw [hz]; rfl
  have z2 : ((z : Int) == 2) = false := by rw [hz]; rfl
  have z3 : ((z : Int) == 3) = false := by rw [hz]; rfl
  have z4 : ((z : Int) == 4) = false := by rw [hz]; rfl
  have z5 : ((z : Int) == 5) = false := by rw [hz]; rfl
  have z6 : ((z : Int) == 6) = false := by rw [hz]; rfl
  have z7 : ((z : Int) == 7) = false := by rw [hz]; rfl
  clear h hf hg hX hO
  have tg1 : Hid True := trivial
  go_enter Tryz.func79, Tryz.ntmps79
  go_wp2_with (first
    | ((with_reducible apply own_cell1 HM); exact rfl; exact rfl; exact dS; exact rfl)
    | ((with_reducible apply cgY HM); exact cgS) | ((with_reducible apply cpY HM); exact cpS; clear HM; intro w' HM) | ((with_reducible apply crY HM); exact crS) | ((with_reducible apply clY HM); exact clS; clear HM; intro w' HM)
    | ((with_reducible apply own_box1 HM); exact rfl; (conv => lhs; whnf); exact rfl; exact rfl; clear tg1 HM; intro w' g1 HM)
    | ((with_reducible apply own_load1 HM); exact rfl; exact rfl; exact tS; exact rfl)
    | (go_at_call 133; have hco := Lib.hid (Co.ok (l := _ :: l) HM.out HG.out HX.out); (with_reducible refine (outOne_at y hco).mono ?_); clear hco; rintro e w' ⟨rfl, hc⟩; clear HM HF HG HX; obtain ⟨X, HF, HG, HX, HM⟩ := hc.out.hid1; clear hc))
  go_ret
  have hco := Co.ok (l := _ :: l) HM.out HG.out HX.out
  exact ⟨rfl, Lib.hid (hco.drop.less (by omega))⟩
set_option maxRecDepth 100000 in
theorem carryPair_0z {W0 w : World} {c b n : Nat} {s : Cs} {l : Blocks} (x y p : Nat) (h : Hid (Co W0 w c b s l (n))) :
    Calls Tryz.prog 134 #[.pointer (some ⟨c, 0, none⟩), .agg #[.int .i64 (x : Int), .int .i64 (y : Int), .int .i64 2, .int .i64 (p : Int), .int .i64 0]] w fun e w' => e = .returned (.int .i64 15) ∧ Hid (Co W0 w' c b (s.carryPair false (p : Int)) l n) := by
  exact carryPair_0 x y 2 p h
set_option maxRecDepth 100000 in
set_option maxHeartbeats 800000 in
theorem rareOne_20 {W0 w : World} {c b n : Nat} {s : Cs} {l : Blocks} (x y p : Nat) (h : Hid (Co W0 w c b s l (n + 4))) :
    Calls Tryz.prog 79 #[.pointer (some ⟨c, 0, none⟩), .agg #[.int .i64 (x : Int), .int .i64 (y : Int), .int .i64 2, .int .i64 (p : Int), .int .i64 0]] w fun e w' => e = .returned (.int .i64 15) ∧ Hid (Co W0 w' c b (s.carryPair false (p : Nat)) l n) := by
  obtain ⟨hf, hg, X, hX, hO⟩ := h.out.out
  have HF := Lib.hid hf
  have HF0 := Lib.hid hf
  have HG := Lib.hid hg
  have HX := Lib.hid hX
  have HM := Lib.hid hO
  clear h hf hg hX hO
  have tg1 : Hid True := trivial
  go_enter Tryz.func79, Tryz.ntmps79
  go_wp2_with (first
    | ((with_reducible apply own_cell1 HM); exact rfl; exact rfl; exact dS; exact rfl)
    | ((with_reducible apply cgY HM); exact cgS) | ((with_reducible apply cpY HM); exact cpS; clear HM; intro w' HM) | ((with_reducible apply crY HM); exact crS) | ((with_reducible apply clY HM); exact clS; clear HM; intro w' HM)
    | ((with_reducible apply own_box1 HM); exact rfl; (conv => lhs; whnf); exact rfl; exact rfl; clear tg1 HM; intro w' g1 HM)
    | ((with_reducible apply own_load1 HM); exact rfl; exact rfl; exact tS; exact rfl)
    | (go_at_call 134; have hco := Lib.hid (Co.ok (l := _ :: l) HM.out HG.out HX.out); (with_reducible refine (carryPair_0z x y p hco).mono ?_); clear hco; rintro e w' ⟨rfl, hc⟩; clear HM HF HG HX; obtain ⟨X, HF, HG, HX, HM⟩ := hc.out.hid1; clear hc))
  go_ret
  have hco := Co.ok (l := _ :: l) HM.out HG.out HX.out
  exact ⟨rfl, Lib.hid (hco.drop.less (by omega))⟩
set_option maxRecDepth 100000 in
theorem carryPair_1z {W0 w : World} {c b n : Nat} {s : Cs} {l : Blocks} (x y p : Nat) (h : Hid (Co W0 w c b s l (n))) :
    Calls Tryz.prog 134 #[.pointer (some ⟨c, 0, none⟩), .agg #[.int .i64 (x : Int), .int .i64 (y : Int), .int .i64 2, .int .i64 (p : Int), .int .i64 1]] w fun e w' => e = .returned (.int .i64 15) ∧ Hid (Co W0 w' c b (s.carryPair true (p : Int)) l n) := by
  exact carryPair_1 x y 2 p h
set_option maxRecDepth 100000 in
set_option maxHeartbeats 800000 in
theorem rareOne_21 {W0 w : World} {c b n : Nat} {s : Cs} {l : Blocks} (x y p : Nat) (h : Hid (Co W0 w c b s l (n + 4))) :
    Calls Tryz.prog 79 #[.pointer (some ⟨c, 0, none⟩), .agg #[.int .i64 (x : Int), .int .i64 (y : Int), .int .i64 2, .int .i64 (p : Int), .int .i64 1]] w fun e w' => e = .returned (.int .i64 15) ∧ Hid (Co W0 w' c b (s.carryPair true (p : Nat)) l n) := by
  obtain ⟨hf, hg, X, hX, hO⟩ := h.out.out
  have HF := Lib.hid hf
  have HF0 := Lib.hid hf
  have HG := Lib.hid hg
  have HX := Lib.hid hX
  have HM := Lib.hid hO
  clear h hf hg hX hO
  have tg1 : Hid True := trivial
  go_enter Tryz.func79, Tryz.ntmps79
  go_wp2_with (first
    | ((with_reducible apply own_cell1 HM); exact rfl; exact rfl; exact dS; exact rfl)
    | ((with_reducible apply cgY HM); exact cgS) | ((with_reducible apply cpY HM); exact cpS; clear HM; intro w' HM) | ((with_reducible apply crY HM); exact crS) | ((with_reducible apply clY HM); exact clS; clear HM; intro w' HM)
    | ((with_reducible apply own_box1 HM); exact rfl; (conv => lhs; whnf); exact rfl; exact rfl; clear tg1 HM; intro w' g1 HM)
    | ((with_reducible apply own_load1 HM); exact rfl; exact rfl; exact tS; exact rfl)
    | (go_at_call 134; have hco := Lib.hid (Co.ok (l := _ :: l) HM.out HG.out HX.out); (with_reducible refine (carryPair_1z x y p hco).mono ?_); clear hco; rintro e w' ⟨rfl, hc⟩; clear HM HF HG HX; obtain ⟨X, HF, HG, HX, HM⟩ := hc.out.hid1; clear hc))
  go_ret
  have hco := Co.ok (l := _ :: l) HM.out HG.out HX.out
  exact ⟨rfl, Lib.hid (hco.drop.less (by omega))⟩
set_option maxRecDepth 100000 in
set_option maxHeartbeats 800000 in
theorem rareOne_3 {W0 w : World} {c b n : Nat} {s : Cs} {l : Blocks} (x y z p q : Nat) (hz : z = 3) (h : Hid (Co W0 w c b s l (n + 4))) :
    Calls Tryz.prog 79 #[.pointer (some ⟨c, 0, none⟩), .agg #[.int .i64 (x : Int), .int .i64 (y : Int), .int .i64 (z : Int), .int .i64 (p : Int), .int .i64 (q : Int)]] w fun e w' => e = .returned (.int .i64 20) ∧ Hid (Co W0 w' c b (s.movePair q (p : Nat)) l n) := by
  obtain ⟨hf, hg, X, hX, hO⟩ := h.out.out
  have HF := Lib.hid hf
  have HF0 := Lib.hid hf
  have HG := Lib.hid hg
  have HX := Lib.hid hX
  have HM := Lib.hid hO
  have z0 : ((z : Int) == 0) = false := by rw [hz]; rfl
  have z1 : ((z : Int) == 1) = false := by rw [hz]; rfl
  have z2 : ((z : Int) == 2) = false := by rw [hz]; rfl
  have z3 : ((z : Int) == 3) = true := by rw [hz]; rfl
  have z4 : ((z : Int) == 4) = false := by rw [hz]; rfl
  have z5 : ((z : Int) == 5) = false := by rw [hz]; rfl
  have z6 : ((z : Int) == 6) = false := by rw [hz]; rfl
  have z7 : ((z : Int) == 7) = false := by rw [hz]; rfl
  clear h hf hg hX hO
  have tg1 : Hid True := trivial
  go_enter Tryz.func79, Tryz.ntmps79
  go_wp2_with (first
    | ((with_reducible apply own_cell1 HM); exact rfl; exact rfl; exact dS; exact rfl)
    | ((with_reducible apply cgY HM); exact cgS) | ((with_reducible apply cpY HM); exact cpS; clear HM; intro w' HM) | ((with_reducible apply crY HM); exact crS) | ((with_reducible apply clY HM); exact clS; clear HM; intro w' HM)
    | ((with_reducible apply own_box1 HM); exact rfl; (conv => lhs; whnf); exact rfl; exact rfl; clear tg1 HM; intro w' g1 HM)
    | ((with_reducible apply own_load1 HM); exact rfl; exact rfl; exact tS; exact rfl)
    | (go_at_call 135; have hco := Lib.hid (Co.ok (l := _ :: l) HM.out HG.out HX.out); (with_reducible refine (movePair_at q _ hco).mono ?_); clear hco; rintro e w' ⟨rfl, hc⟩; clear HM HF HG HX; obtain ⟨X, HF, HG, HX, HM⟩ := hc.out.hid1; clear hc))
  go_ret
  have hco := Co.ok (l := _ :: l) HM.out HG.out HX.out
  exact ⟨rfl, Lib.hid (hco.drop.less (by omega))⟩
theorem sub_neg (a v f : Nat) (ha : a < 256) (hv : Hid (nSubV 0 a 0 = v)) (hf : Hid (nSubF 0 a 0 = f)) (w : World) :
    Calls Tryz.prog 136 #[.int .u8 0, .int .u8 (a : Int), .bool false] w fun e w' => e = .returned (.tuple #[.int .u8 (v : Int), .int .u8 (f : Int)]) ∧ w = w' := sub_at 0 a false v f (by decide) ha hv hf w
set_option maxRecDepth 100000 in
set_option maxHeartbeats 800000 in
theorem rareOne_4 {W0 w : World} {c b n : Nat} {s : Cs} {l : Blocks} (x y z p q : Nat) (hz : z = 4) (h : Hid (Co W0 w c b s l (n + 4))) :
    Calls Tryz.prog 79 #[.pointer (some ⟨c, 0, none⟩), .agg #[.int .i64 (x : Int), .int .i64 (y : Int), .int .i64 (z : Int), .int .i64 (p : Int), .int .i64 (q : Int)]] w fun e w' => e = .returned (.int .i64 8) ∧ Hid (Co W0 w' c b ((s.setA (nSubV 0 s.r.a 0)).setF (nSubF 0 s.r.a 0)) l n) := by
  obtain ⟨hf, hg, X, hX, hO⟩ := h.out.out
  have HF := Lib.hid hf
  have HF0 := Lib.hid hf
  have HG := Lib.hid hg
  have HX := Lib.hid hX
  have HM := Lib.hid hO
  have z0 : ((z : Int) == 0) = false := by rw [hz]; rfl
  have z1 : ((z : Int) == 1) = false := by rw [hz]; rfl
  have z2 : ((z : Int) == 2) = false := by rw [hz]; rfl
  have z3 : ((z : Int) == 3) = false := by rw [hz]; rfl
  have z4 : ((z : Int) == 4) = true := by rw [hz]; rfl
  have z5 : ((z : Int) == 5) = false := by rw [hz]; rfl
  have z6 : ((z : Int) == 6) = false := by rw [hz]; rfl
  have z7 : ((z : Int) == 7) = false := by rw [hz]; rfl
  have a1 : s.r.a < 256 := hf.r.a
  obtain ⟨A, hA⟩ : ∃ x, Hid (nSubV 0 s.r.a 0 = x) := ⟨_, rfl⟩
  obtain ⟨B, hB⟩ : ∃ x, Hid (nSubF 0 s.r.a 0 = x) := ⟨_, rfl⟩
  have A1 : A < 256 := by rw [← hA.out]; exact nSubV_lt _ _ _
  have B1 : B < 256 := by rw [← hB.out]; exact nSubF_lt _ _ _
  rw [hA.out, hB.out]
  clear h hf hg hX hO
  have tg1 : Hid True := trivial
  go_enter Tryz.func79, Tryz.ntmps79
  go_wp2_with (first
    | ((with_reducible apply own_cell1 HM); exact rfl; exact rfl; exact dS; exact rfl)
    | ((with_reducible apply cgY HM); exact cgS) | ((with_reducible apply cpY HM); exact cpS; clear HM; intro w' HM) | ((with_reducible apply crY HM); exact crS) | ((with_reducible apply clY HM); exact clS; clear HM; intro w' HM)
    | ((with_reducible apply own_box1 HM); exact rfl; (conv => lhs; whnf); exact rfl; exact rfl; clear tg1 HM; intro w' g1 HM)
    | ((with_reducible apply own_load1 HM); exact rfl; exact rfl; exact tS; exact rfl)
    | (go_at_call 136; (with_reducible refine (sub_neg _ A B a1 hA hB _).mono ?_); rintro e w' ⟨rfl, rfl⟩))
  go_ret
  have hco := Co.ok (l := _ :: l) HM.out HG.out HX.out
  exact ⟨rfl, Lib.hid (hco.drop.less (by omega))⟩
set_option maxRecDepth 100000 in
set_option maxHeartbeats 800000 in
theorem rareOne_5 {W0 w : World} {c b n : Nat} {s : Cs} {l : Blocks} (x y z p q : Nat) (hz : z = 5) (h : Hid (Co W0 w c b s l (n + 4))) :
    Calls Tryz.prog 79 #[.pointer (some ⟨c, 0, none⟩), .agg #[.int .i64 (x : Int), .int .i64 (y : Int), .int .i64 (z : Int), .int .i64 (p : Int), .int .i64 (q : Int)]] w fun e w' => e = .returned (.int .i64 14) ∧ Hid (Co W0 w' c b (s.back.setQ1 s.r.q2) l n) := by
  obtain ⟨hf, hg, X, hX, hO⟩ := h.out.out
  have HF := Lib.hid hf
  have HF0 := Lib.hid hf
  have HG := Lib.hid hg
  have HX := Lib.hid hX
  have HM := Lib.hid hO
  have z0 : ((z : Int) == 0) = false := by rw [hz]; rfl
  have z1 : ((z : Int) == 1) = false := by rw [hz]; rfl
  have z2 : ((z : Int) == 2) = false := by rw [hz]; rfl
  have z3 : ((z : Int) == 3) = false := by rw [hz]; rfl
  have z4 : ((z : Int) == 4) = false := by rw [hz]; rfl
  have z5 : ((z : Int) == 5) = true := by rw [hz]; rfl
  have z6 : ((z : Int) == 6) = false := by rw [hz]; rfl
  have z7 : ((z : Int) == 7) = false := by rw [hz]; rfl
  clear h hf hg hX hO
  have tg1 : Hid True := trivial
  go_enter Tryz.func79, Tryz.ntmps79
  go_wp2_with (first
    | ((with_reducible apply own_cell1 HM); exact rfl; exact rfl; exact dS; exact rfl)
    | ((with_reducible apply cgY HM); exact cgS) | ((with_reducible apply cpY HM); exact cpS; clear HM; intro w' HM) | ((with_reducible apply crY HM); exact crS) | ((with_reducible apply clY HM); exact clS; clear HM; intro w' HM)
    | ((with_reducible apply own_box1 HM); exact rfl; (conv => lhs; whnf); exact rfl; exact rfl; clear tg1 HM; intro w' g1 HM)
    | ((with_reducible apply own_load1 HM); exact rfl; exact rfl; exact tS; exact rfl)
    | (go_at_call 137; have hco := Lib.hid (Co.ok (l := _ :: l) HM.out HG.out HX.out); (with_reducible refine (comeBack_at hco).mono ?_); clear hco; rintro e w' ⟨rfl, hc⟩; clear HM HF HG HX; obtain ⟨X, HF, HG, HX, HM⟩ := hc.out.hid1; clear hc))
  go_ret
  have hco := Co.ok (l := _ :: l) HM.out HG.out HX.out
  exact ⟨rfl, Lib.hid (hco.drop.less (by omega))⟩
set_option maxRecDepth 100000 in
set_option maxHeartbeats 800000 in
theorem rareOne_6 {W0 w : World} {c b n : Nat} {s : Cs} {l : Blocks} (x y z p q : Nat) (hz : z = 6) (hT : Hid (Tabs W0)) (h : Hid (Co W0 w c b s l (n + 4))) :
    Calls Tryz.prog 79 #[.pointer (some ⟨c, 0, none⟩), .agg #[.int .i64 (x : Int), .int .i64 (y : Int), .int .i64 (z : Int), .int .i64 (p : Int), .int .i64 (q : Int)]] w fun e w' => e = .returned (.int .i64 8) ∧ Hid (Co W0 w' c b (s.setIM (Cs.modeV y)) l n) := by
  obtain ⟨hf, hg, X, hX, hO⟩ := h.out.out
  have HF := Lib.hid hf
  have HF0 := Lib.hid hf
  have HG := Lib.hid hg
  have HX := Lib.hid hX
  have HM := Lib.hid hO
  have z0 : ((z : Int) == 0) = false := by rw [hz]; rfl
  have z1 : ((z : Int) == 1) = false := by rw [hz]; rfl
  have z2 : ((z : Int) == 2) = false := by rw [hz]; rfl
  have z3 : ((z : Int) == 3) = false := by rw [hz]; rfl
  have z4 : ((z : Int) == 4) = false := by rw [hz]; rfl
  have z5 : ((z : Int) == 5) = false := by rw [hz]; rfl
  have z6 : ((z : Int) == 6) = true := by rw [hz]; rfl
  have z7 : ((z : Int) == 7) = false := by rw [hz]; rfl
  obtain ⟨k, hk⟩ : ∃ k, y % 4 = k := ⟨_, rfl⟩
  have k4 : k < 4 := by omega
  have e1 : bits .and .i64 (y : Int) 3 = (k : Int) := by rw [i64_low2]; omega
  obtain ⟨M, hM⟩ : ∃ M, Hid (Cs.modeV y = M) := ⟨_, rfl⟩
  have M1 : M < 256 := by rw [← hM.out]; unfold Cs.modeV; split; decide; split; decide; decide
  have em : modeTab.getD k 0 = (M : Int) := by rw [← hk, modeTab_at y, hM.out]
  rw [hM.out]
  clear h hf hg hX hO
  have tg1 : Hid True := trivial
  go_enter Tryz.func79, Tryz.ntmps79
  go_upto_region 19 with (first
    | ((with_reducible apply own_cell1 HM); exact rfl; exact rfl; exact dS; exact rfl)
    | ((with_reducible apply cgY HM); exact cgS) | ((with_reducible apply cpY HM); exact cpS; clear HM; intro w' HM) | ((with_reducible apply crY HM); exact crS) | ((with_reducible apply clY HM); exact clS; clear HM; intro w' HM)
    | ((with_reducible apply own_box1 HM); exact rfl; (conv => lhs; whnf); exact rfl; exact rfl; clear tg1 HM; intro w' g1 HM)
    | ((with_reducible apply own_load1 HM); exact rfl; exact rfl; exact tS; exact rfl))
  have ct := (Tabs.own hT HM).mode k k4
  rw [em] at ct
  go_wp2_with (first
    | ((with_reducible apply own_cell1 HM); exact rfl; exact rfl; exact dS; exact rfl)
    | ((with_reducible apply cgY HM); exact cgS) | ((with_reducible apply cpY HM); exact cpS; clear HM; intro w' HM) | ((with_reducible apply crY HM); exact crS) | ((with_reducible apply clY HM); exact clS; clear HM; intro w' HM)
    | ((with_reducible apply own_box1 HM); exact rfl; (conv => lhs; whnf); exact rfl; exact rfl; clear tg1 HM; intro w' g1 HM)
    | ((with_reducible apply own_load1 HM); exact rfl; exact rfl; exact tS; exact rfl))
  go_ret
  have hco := Co.ok (l := _ :: l) HM.out HG.out HX.out
  exact ⟨rfl, Lib.hid (hco.drop.less (by omega))⟩
set_option maxRecDepth 100000 in
set_option maxHeartbeats 800000 in
theorem rareOne_7 {W0 w : World} {c b n : Nat} {s : Cs} {l : Blocks} (x y z p q : Nat) (hz : z = 7) (h : Hid (Co W0 w c b s l (n + 4))) :
    Calls Tryz.prog 79 #[.pointer (some ⟨c, 0, none⟩), .agg #[.int .i64 (x : Int), .int .i64 (y : Int), .int .i64 (z : Int), .int .i64 (p : Int), .int .i64 (q : Int)]] w fun e w' => e = .returned (.int .i64 ((Cs.oddC y : Nat) : Int)) ∧ Hid (Co W0 w' c b (s.odd y) l n) := by
  obtain ⟨hf, hg, X, hX, hO⟩ := h.out.out
  have HF := Lib.hid hf
  have HF0 := Lib.hid hf
  have HG := Lib.hid hg
  have HX := Lib.hid hX
  have HM := Lib.hid hO
  have z0 : ((z : Int) == 0) = false := by rw [hz]; rfl
  have z1 : ((z : Int) == 1) = false := by rw [hz]; rfl
  have z2 : ((z : Int) == 2) = false := by rw [hz]; rfl
  have z3 : ((z : Int) == 3) = false := by rw [hz]; rfl
  have z4 : ((z : Int) == 4) = false := by rw [hz]; rfl
  have z5 : ((z : Int) == 5) = false := by rw [hz]; rfl
  have z6 : ((z : Int) == 6) = false := by rw [hz]; rfl
  have z7 : ((z : Int) == 7) = true := by rw [hz]; rfl
  clear h hf hg hX hO
  have tg1 : Hid True := trivial
  go_enter Tryz.func79, Tryz.ntmps79
  go_wp2_with (first
    | ((with_reducible apply own_cell1 HM); exact rfl; exact rfl; exact dS; exact rfl)
    | ((with_reducible apply cgY HM); exact cgS) | ((with_reducible apply cpY HM); exact cpS; clear HM; intro w' HM) | ((with_reducible apply crY HM); exact crS) | ((with_reducible apply clY HM); exact clS; clear HM; intro w' HM)
    | ((with_reducible apply own_box1 HM); exact rfl; (conv => lhs; whnf); exact rfl; exact rfl; clear tg1 HM; intro w' g1 HM)
    | ((with_reducible apply own_load1 HM); exact rfl; exact rfl; exact tS; exact rfl)
    | (go_at_call 138; have hco := Lib.hid (Co.ok (l := _ :: l) HM.out HG.out HX.out); (with_reducible refine (odd_at y hco).mono ?_); clear hco; rintro e w' ⟨rfl, hc⟩; clear HM HF HG HX; obtain ⟨X, HF, HG, HX, HM⟩ := hc.out.hid1; clear hc))
  go_ret
  have hco := Co.ok (l := _ :: l) HM.out HG.out HX.out
  exact ⟨rfl, Lib.hid (hco.drop.less (by omega))⟩
set_option maxRecDepth 100000 in
theorem rareOne_at {W0 w : World} {c b n : Nat} {s : Cs} {l : Blocks} (hT : Hid (Tabs W0)) (x y z p q : Nat) (hz : z < 8) (hp : y / 2 = p) (hq : y % 2 = q) (h : Hid (Co W0 w c b s l (n + 4))) :
    Calls Tryz.prog 79 #[.pointer (some ⟨c, 0, none⟩), .agg #[.int .i64 (x : Int), .int .i64 (y : Int), .int .i64 (z : Int), .int .i64 (p : Int), .int .i64 (q : Int)]] w fun e w' => e = .returned (.int .i64 ((Cs.rareOneC y z : Nat) : Int)) ∧ Hid (Co W0 w' c b (s.rareOne y z) l n) := by
  by_cases h0 : z = 0
  · have e2 : s.rareOne y z = s.inOne y := if_pos (by omega)
    have e3 : Cs.rareOneC y z = 12 := if_pos (by omega)
    rw [e2, e3]; exact rareOne_0 x y z p q h0 h
  by_cases h1 : z = 1
  · have e2 : s.rareOne y z = s.outOne y := (if_neg (by omega)).trans (if_pos (by omega))
    have e3 : Cs.rareOneC y z = 12 := (if_neg (by omega)).trans (if_pos (by omega))
    rw [e2, e3]; exact rareOne_1 x y z p q h1 h
  by_cases h3 : z = 3
  · have e2 : s.rareOne y z = s.movePair (y % 2) (y / 2 : Nat) := (if_neg (by omega)).trans ((if_neg (by omega)).trans ((if_neg (by omega)).trans (if_pos (by omega))))
    have e3 : Cs.rareOneC y z = 20 := (if_neg (by omega)).trans ((if_neg (by omega)).trans ((if_neg (by omega)).trans (if_pos (by omega))))
    rw [e2, e3]; rw [hp, hq]; exact rareOne_3 x y z p q h3 h
  by_cases h4 : z = 4
  · have e2 : s.rareOne y z = (s.setA (nSubV 0 s.r.a 0)).setF (nSubF 0 s.r.a 0) := (if_neg (by omega)).trans ((if_neg (by omega)).trans ((if_neg (by omega)).trans ((if_neg (by omega)).trans (if_pos (by omega)))))
    have e3 : Cs.rareOneC y z = 8 := (if_neg (by omega)).trans ((if_neg (by omega)).trans ((if_neg (by omega)).trans ((if_neg (by omega)).trans (if_pos (by omega)))))
    rw [e2, e3]; exact rareOne_4 x y z p q h4 h
  by_cases h5 : z = 5
  · have e2 : s.rareOne y z = s.back.setQ1 s.r.q2 := (if_neg (by omega)).trans ((if_neg (by omega)).trans ((if_neg (by omega)).trans ((if_neg (by omega)).trans ((if_neg (by omega)).trans (if_pos (by omega))))))
    have e3 : Cs.rareOneC y z = 14 := (if_neg (by omega)).trans ((if_neg (by omega)).trans ((if_neg (by omega)).trans ((if_neg (by omega)).trans ((if_neg (by omega)).trans (if_pos (by omega))))))
    rw [e2, e3]; exact rareOne_5 x y z p q h5 h
  by_cases h6 : z = 6
  · have e2 : s.rareOne y z = s.setIM (Cs.modeV y) := (if_neg (by omega)).trans ((if_neg (by omega)).trans ((if_neg (by omega)).trans ((if_neg (by omega)).trans ((if_neg (by omega)).trans ((if_neg (by omega)).trans (if_pos (by omega)))))))
    have e3 : Cs.rareOneC y z = 8 := (if_neg (by omega)).trans ((if_neg (by omega)).trans ((if_neg (by omega)).trans ((if_neg (by omega)).trans ((if_neg (by omega)).trans ((if_neg (by omega)).trans (if_pos (by omega)))))))
    rw [e2, e3]; exact rareOne_6 x y z p q h6 hT h
  by_cases h2 : z = 2
  · have e2 : s.rareOne y z = s.carryPair (decide (y % 2 ≠ 0)) (y / 2 : Nat) := (if_neg (by omega)).trans ((if_neg (by omega)).trans (if_pos (by omega)))
    have e3 : Cs.rareOneC y z = 15 := (if_neg (by omega)).trans ((if_neg (by omega)).trans (if_pos (by omega)))
    rw [e2, e3, hp, hq]
    by_cases h8 : q = 0
    · subst h8
      subst h2
      rw [show ((0 : Nat) : Int) = 0 from rfl, show ((2 : Nat) : Int) = 2 from rfl]
      exact rareOne_20 x y p h
    · obtain rfl : q = 1 := by omega
      subst h2
      rw [show ((1 : Nat) : Int) = 1 from rfl, show ((2 : Nat) : Int) = 2 from rfl]
      exact rareOne_21 x y p h
  have h7 : z = 7 := by omega
  have e2 : s.rareOne y z = s.odd y := (if_neg (by omega)).trans ((if_neg (by omega)).trans ((if_neg (by omega)).trans ((if_neg (by omega)).trans ((if_neg (by omega)).trans ((if_neg (by omega)).trans (if_neg (by omega)))))))
  have e3 : Cs.rareOneC y z = Cs.oddC y := (if_neg (by omega)).trans ((if_neg (by omega)).trans ((if_neg (by omega)).trans ((if_neg (by omega)).trans ((if_neg (by omega)).trans ((if_neg (by omega)).trans (if_neg (by omega)))))))
  rw [e2, e3]; exact rareOne_7 x y z p q h7 h
set_option maxRecDepth 100000 in
theorem rareOne_1x {W0 w : World} {c b n : Nat} {s : Cs} {l : Blocks} (hT : Hid (Tabs W0)) (y z p q : Nat) (hz : z < 8) (hp : y / 2 = p) (hq : y % 2 = q) (h : Hid (Co W0 w c b s l (n + 4))) :
    Calls Tryz.prog 79 #[.pointer (some ⟨c, 0, none⟩), .agg #[.int .i64 1, .int .i64 (y : Int), .int .i64 (z : Int), .int .i64 (p : Int), .int .i64 (q : Int)]] w fun e w' => e = .returned (.int .i64 ((Cs.rareOneC y z : Nat) : Int)) ∧ Hid (Co W0 w' c b (s.rareOne y z) l n) := by
  exact rareOne_at hT 1 y z p q hz hp hq h
set_option maxRecDepth 100000 in
set_option maxHeartbeats 800000 in
theorem rare_one {W0 w : World} {c b n : Nat} {s : Cs} {l : Blocks} (y z p q : Nat) (hT : Hid (Tabs W0)) (hz : z < 8) (hp : y / 2 = p) (hq : y % 2 = q) (h : Hid (Co W0 w c b s l (n + 4))) :
    Calls Tryz.prog 45 #[.pointer (some ⟨c, 0, none⟩), .agg #[.int .i64 1, .int .i64 (y : Int), .int .i64 (z : Int), .int .i64 (p : Int), .int .i64 (q : Int)]] w fun e w' => e = .returned (.int .i64 ((Cs.rareOneC y z : Nat) : Int)) ∧ Hid (Co W0 w' c b (s.rareOne y z) l n) := by
  obtain ⟨hf, hg, X, hX, hO⟩ := h.out.out
  have HF := Lib.hid hf
  have HF0 := Lib.hid hf
  have HG := Lib.hid hg
  have HX := Lib.hid hX
  have HM := Lib.hid hO
  clear h hf hg hX hO
  have tg1 : Hid True := trivial
  go_enter Tryz.func45, Tryz.ntmps45
  go_wp2_with (first
    | ((with_reducible apply own_cell1 HM); exact rfl; exact rfl; exact dS; exact rfl)
    | ((with_reducible apply cgY HM); exact cgS) | ((with_reducible apply cpY HM); exact cpS; clear HM; intro w' HM) | ((with_reducible apply crY HM); exact crS) | ((with_reducible apply clY HM); exact clS; clear HM; intro w' HM)
    | ((with_reducible apply own_box1 HM); exact rfl; (conv => lhs; whnf); exact rfl; exact rfl; clear tg1 HM; intro w' g1 HM)
    | ((with_reducible apply own_load1 HM); exact rfl; exact rfl; exact tS; exact rfl)
    | (go_at_call 79; have hco := Lib.hid (Co.ok (l := _ :: l) HM.out HG.out HX.out); (with_reducible refine (rareOne_1x hT y z p q hz hp hq hco).mono ?_); clear hco; rintro e w' ⟨rfl, hc⟩; clear HM HF HG HX; obtain ⟨X, HF, HG, HX, HM⟩ := hc.out.hid1; clear hc))
  go_ret
  have hco := Co.ok (l := _ :: l) HM.out HG.out HX.out
  exact ⟨rfl, Lib.hid (hco.drop.less (by omega))⟩
set_option maxRecDepth 100000 in
theorem many_0x {W0 w : World} {c b n : Nat} {s : Cs} {l : Blocks} (y z p : Nat) (hz : z < 4) (hq : y % 2 = 0) (h : Hid (Co W0 w c b s l (n + 2))) :
    Calls Tryz.prog 80 #[.pointer (some ⟨c, 0, none⟩), .agg #[.int .i64 2, .int .i64 (y : Int), .int .i64 (z : Int), .int .i64 (p : Int), .int .i64 0]] w fun e w' => e = .returned (.int .i64 ((s.manyC y z : Nat) : Int)) ∧ Hid (Co W0 w' c b (s.many y z) l n) := by
  exact many_0 2 y z p hz hq h
set_option maxRecDepth 100000 in
set_option maxHeartbeats 800000 in
theorem rare_many_0 {W0 w : World} {c b n : Nat} {s : Cs} {l : Blocks} (y z p : Nat) (hy : 4 ≤ y) (hz : z < 4) (hq : y % 2 = 0) (h : Hid (Co W0 w c b s l (n + 4))) :
    Calls Tryz.prog 45 #[.pointer (some ⟨c, 0, none⟩), .agg #[.int .i64 2, .int .i64 (y : Int), .int .i64 (z : Int), .int .i64 (p : Int), .int .i64 0]] w fun e w' => e = .returned (.int .i64 ((s.manyC y z : Nat) : Int)) ∧ Hid (Co W0 w' c b (s.many y z) l n) := by
  obtain ⟨hf, hg, X, hX, hO⟩ := h.out.out
  have HF := Lib.hid hf
  have HF0 := Lib.hid hf
  have HG := Lib.hid hg
  have HX := Lib.hid hX
  have HM := Lib.hid hO
  have y4 : (4 : Int) ≤ (y : Int) := by omega
  have z4 : (z : Int) < 4 := by omega
  clear h hf hg hX hO
  have tg1 : Hid True := trivial
  go_enter Tryz.func45, Tryz.ntmps45
  go_wp2_with (first
    | ((with_reducible apply own_cell1 HM); exact rfl; exact rfl; exact dS; exact rfl)
    | ((with_reducible apply cgY HM); exact cgS) | ((with_reducible apply cpY HM); exact cpS; clear HM; intro w' HM) | ((with_reducible apply crY HM); exact crS) | ((with_reducible apply clY HM); exact clS; clear HM; intro w' HM)
    | ((with_reducible apply own_box1 HM); exact rfl; (conv => lhs; whnf); exact rfl; exact rfl; clear tg1 HM; intro w' g1 HM)
    | ((with_reducible apply own_load1 HM); exact rfl; exact rfl; exact tS; exact rfl)
    | (go_at_call 80; have hco := Lib.hid (Co.ok (l := _ :: l) HM.out HG.out HX.out); (with_reducible refine (many_0x y z p hz hq hco).mono ?_); clear hco; rintro e w' ⟨rfl, hc⟩; clear HM HF HG HX; obtain ⟨X, HF, HG, HX, HM⟩ := hc.out.hid1; clear hc))
  go_ret
  have hco := Co.ok (l := _ :: l) HM.out HG.out HX.out
  exact ⟨rfl, Lib.hid (hco.drop.less (by omega))⟩
set_option maxRecDepth 100000 in
theorem many_1x {W0 w : World} {c b n : Nat} {s : Cs} {l : Blocks} (y z p : Nat) (hz : z < 4) (hq : y % 2 = 1) (h : Hid (Co W0 w c b s l (n + 2))) :
    Calls Tryz.prog 80 #[.pointer (some ⟨c, 0, none⟩), .agg #[.int .i64 2, .int .i64 (y : Int), .int .i64 (z : Int), .int .i64 (p : Int), .int .i64 1]] w fun e w' => e = .returned (.int .i64 ((s.manyC y z : Nat) : Int)) ∧ Hid (Co W0 w' c b (s.many y z) l n) := by
  exact many_1 2 y z p hz hq h
set_option maxRecDepth 100000 in
set_option maxHeartbeats 800000 in
theorem rare_many_1 {W0 w : World} {c b n : Nat} {s : Cs} {l : Blocks} (y z p : Nat) (hy : 4 ≤ y) (hz : z < 4) (hq : y % 2 = 1) (h : Hid (Co W0 w c b s l (n + 4))) :
    Calls Tryz.prog 45 #[.pointer (some ⟨c, 0, none⟩), .agg #[.int .i64 2, .int .i64 (y : Int), .int .i64 (z : Int), .int .i64 (p : Int), .int .i64 1]] w fun e w' => e = .returned (.int .i64 ((s.manyC y z : Nat) : Int)) ∧ Hid (Co W0 w' c b (s.many y z) l n) := by
  obtain ⟨hf, hg, X, hX, hO⟩ := h.out.out
  have HF := Lib.hid hf
  have HF0 := Lib.hid hf
  have HG := Lib.hid hg
  have HX := Lib.hid hX
  have HM := Lib.hid hO
  have y4 : (4 : Int) ≤ (y : Int) := by omega
  have z4 : (z : Int) < 4 := by omega
  clear h hf hg hX hO
  have tg1 : Hid True := trivial
  go_enter Tryz.func45, Tryz.ntmps45
  go_wp2_with (first
    | ((with_reducible apply own_cell1 HM); exact rfl; exact rfl; exact dS; exact rfl)
    | ((with_reducible apply cgY HM); exact cgS) | ((with_reducible apply cpY HM); exact cpS; clear HM; intro w' HM) | ((with_reducible apply crY HM); exact crS) | ((with_reducible apply clY HM); exact clS; clear HM; intro w' HM)
    | ((with_reducible apply own_box1 HM); exact rfl; (conv => lhs; whnf); exact rfl; exact rfl; clear tg1 HM; intro w' g1 HM)
    | ((with_reducible apply own_load1 HM); exact rfl; exact rfl; exact tS; exact rfl)
    | (go_at_call 80; have hco := Lib.hid (Co.ok (l := _ :: l) HM.out HG.out HX.out); (with_reducible refine (many_1x y z p hz hq hco).mono ?_); clear hco; rintro e w' ⟨rfl, hc⟩; clear HM HF HG HX; obtain ⟨X, HF, HG, HX, HM⟩ := hc.out.hid1; clear hc))
  go_ret
  have hco := Co.ok (l := _ :: l) HM.out HG.out HX.out
  exact ⟨rfl, Lib.hid (hco.drop.less (by omega))⟩
set_option maxRecDepth 100000 in
set_option maxHeartbeats 800000 in
theorem rare_no_x {W0 w : World} {c b n : Nat} {s : Cs} {l : Blocks} (x y z p q : Nat) (hx : ¬ x = 1 ∧ ¬ x = 2) (h : Hid (Co W0 w c b s l (n + 4))) :
    Calls Tryz.prog 45 #[.pointer (some ⟨c, 0, none⟩), .agg #[.int .i64 (x : Int), .int .i64 (y : Int), .int .i64 (z : Int), .int .i64 (p : Int), .int .i64 (q : Int)]] w fun e w' => e = .returned (.int .i64 8) ∧ Hid (Co W0 w' c b (s) l n) := by
  obtain ⟨hf, hg, X, hX, hO⟩ := h.out.out
  have HF := Lib.hid hf
  have HF0 := Lib.hid hf
  have HG := Lib.hid hg
  have HX := Lib.hid hX
  have HM := Lib.hid hO
  have x1 : ((x : Int) == 1) = false := by simp; omega
  have x2 : ((x : Int) == 2) = false := by simp; omega
  clear h hf hg hX hO
  have tg1 : Hid True := trivial
  go_enter Tryz.func45, Tryz.ntmps45
  go_wp2_with (first
    | ((with_reducible apply own_cell1 HM); exact rfl; exact rfl; exact dS; exact rfl)
    | ((with_reducible apply cgY HM); exact cgS) | ((with_reducible apply cpY HM); exact cpS; clear HM; intro w' HM) | ((with_reducible apply crY HM); exact crS) | ((with_reducible apply clY HM); exact clS; clear HM; intro w' HM)
    | ((with_reducible apply own_box1 HM); exact rfl; (conv => lhs; whnf); exact rfl; exact rfl; clear tg1 HM; intro w' g1 HM)
    | ((with_reducible apply own_load1 HM); exact rfl; exact rfl; exact tS; exact rfl))
  go_ret
  have hco := Co.ok (l := _ :: l) HM.out HG.out HX.out
  exact ⟨rfl, Lib.hid (hco.drop.less (by omega))⟩
set_option maxRecDepth 100000 in
set_option maxHeartbeats 800000 in
theorem rare_no_y {W0 w : World} {c b n : Nat} {s : Cs} {l : Blocks} (x y z p q : Nat) (hx : x = 2) (hy : y < 4) (h : Hid (Co W0 w c b s l (n + 4))) :
    Calls Tryz.prog 45 #[.pointer (some ⟨c, 0, none⟩), .agg #[.int .i64 (x : Int), .int .i64 (y : Int), .int .i64 (z : Int), .int .i64 (p : Int), .int .i64 (q : Int)]] w fun e w' => e = .returned (.int .i64 8) ∧ Hid (Co W0 w' c b (s) l n) := by
  obtain ⟨hf, hg, X, hX, hO⟩ := h.out.out
  have HF := Lib.hid hf
  have HF0 := Lib.hid hf
  have HG := Lib.hid hg
  have HX := Lib.hid hX
  have HM := Lib.hid hO
  have x1 : ((x : Int) == 1) = false := by rw [hx]; rfl
  have x2 : ((x : Int) == 2) = true := by rw [hx]; rfl
  have y4 : (y : Int) < 4 := by omega
  clear h hf hg hX hO
  have tg1 : Hid True := trivial
  go_enter Tryz.func45, Tryz.ntmps45
  go_wp2_with (first
    | ((with_reducible apply own_cell1 HM); exact rfl; exact rfl; exact dS; exact rfl)
    | ((with_reducible apply cgY HM); exact cgS) | ((with_reducible apply cpY HM); exact cpS; clear HM; intro w' HM) | ((with_reducible apply crY HM); exact crS) | ((with_reducible apply clY HM); exact clS; clear HM; intro w' HM)
    | ((with_reducible apply own_box1 HM); exact rfl; (conv => lhs; whnf); exact rfl; exact rfl; clear tg1 HM; intro w' g1 HM)
    | ((with_reducible apply own_load1 HM); exact rfl; exact rfl; exact tS; exact rfl))
  go_ret
  have hco := Co.ok (l := _ :: l) HM.out HG.out HX.out
  exact ⟨rfl, Lib.hid (hco.drop.less (by omega))⟩
set_option maxRecDepth 100000 in
set_option maxHeartbeats 800000 in
theorem rare_no_z {W0 w : World} {c b n : Nat} {s : Cs} {l : Blocks} (x y z p q : Nat) (hx : x = 2) (hy : 4 ≤ y) (hz : 4 ≤ z) (h : Hid (Co W0 w c b s l (n + 4))) :
    Calls Tryz.prog 45 #[.pointer (some ⟨c, 0, none⟩), .agg #[.int .i64 (x : Int), .int .i64 (y : Int), .int .i64 (z : Int), .int .i64 (p : Int), .int .i64 (q : Int)]] w fun e w' => e = .returned (.int .i64 8) ∧ Hid (Co W0 w' c b (s) l n) := by
  obtain ⟨hf, hg, X, hX, hO⟩ := h.out.out
  have HF := Lib.hid hf
  have HF0 := Lib.hid hf
  have HG := Lib.hid hg
  have HX := Lib.hid hX
  have HM := Lib.hid hO
  have x1 : ((x : Int) == 1) = false := by rw [hx]; rfl
  have x2 : ((x : Int) == 2) = true := by rw [hx]; rfl
  have y4 : (4 : Int) ≤ (y : Int) := by omega
  have z4 : (4 : Int) ≤ (z : Int) := by omega
  clear h hf hg hX hO
  have tg1 : Hid True := trivial
  go_enter Tryz.func45, Tryz.ntmps45
  go_wp2_with (first
    | ((with_reducible apply own_cell1 HM); exact rfl; exact rfl; exact dS; exact rfl)
    | ((with_reducible apply cgY HM); exact cgS) | ((with_reducible apply cpY HM); exact cpS; clear HM; intro w' HM) | ((with_reducible apply crY HM); exact crS) | ((with_reducible apply clY HM); exact clS; clear HM; intro w' HM)
    | ((with_reducible apply own_box1 HM); exact rfl; (conv => lhs; whnf); exact rfl; exact rfl; clear tg1 HM; intro w' g1 HM)
    | ((with_reducible apply own_load1 HM); exact rfl; exact rfl; exact tS; exact rfl))
  go_ret
  have hco := Co.ok (l := _ :: l) HM.out HG.out HX.out
  exact ⟨rfl, Lib.hid (hco.drop.less (by omega))⟩
set_option maxRecDepth 100000 in
theorem rare_at {W0 w : World} {c b n : Nat} {s : Cs} {l : Blocks} (hT : Hid (Tabs W0)) (x y z p q : Nat) (hz : z < 8) (hp : y / 2 = p) (hq : y % 2 = q) (h : Hid (Co W0 w c b s l (n + 4))) :
    Calls Tryz.prog 45 #[.pointer (some ⟨c, 0, none⟩), .agg #[.int .i64 (x : Int), .int .i64 (y : Int), .int .i64 (z : Int), .int .i64 (p : Int), .int .i64 (q : Int)]] w fun e w' => e = .returned (.int .i64 ((s.rareC x y z : Nat) : Int)) ∧ Hid (Co W0 w' c b (s.rare x y z) l n) := by
  by_cases h1 : x = 1
  · have e2 : s.rare x y z = s.rareOne y z := if_pos h1
    have e3 : s.rareC x y z = Cs.rareOneC y z := if_pos h1
    rw [e2, e3]; subst h1; rw [show ((1 : Nat) : Int) = 1 from rfl]; exact rare_one y z p q hT hz hp hq h
  by_cases h2 : x = 2 ∧ 4 ≤ y ∧ z < 4
  · have e2 : s.rare x y z = s.many y z := (if_neg h1).trans (if_pos h2)
    have e3 : s.rareC x y z = s.manyC y z := (if_neg h1).trans (if_pos h2)
    rw [e2, e3]
    obtain ⟨h2, h5, h6⟩ := h2
    subst h2
    rw [show ((2 : Nat) : Int) = 2 from rfl]
    by_cases h8 : q = 0
    · subst h8
      rw [show ((0 : Nat) : Int) = 0 from rfl]
      exact rare_many_0 y z p h5 h6 hq h
    · obtain rfl : q = 1 := by omega
      rw [show ((1 : Nat) : Int) = 1 from rfl]
      exact rare_many_1 y z p h5 h6 hq h
  have e2 : s.rare x y z = s := (if_neg h1).trans (if_neg h2)
  have e3 : s.rareC x y z = 8 := (if_neg h1).trans (if_neg h2)
  rw [e2, e3]
  by_cases h3 : x = 2
  · by_cases h4 : 4 ≤ y
    · exact rare_no_z x y z p q h3 h4 (by omega) h
    · exact rare_no_y x y z p q h3 (by omega) h
  · exact rare_no_x x y z p q ⟨h1, h3⟩ h
end Go.Proofs.YtljjgakfnajifaaGreatDoor
