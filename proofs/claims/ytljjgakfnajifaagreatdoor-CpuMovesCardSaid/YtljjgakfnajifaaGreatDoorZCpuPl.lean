import Derived.Test.YtljjgakfnajifaaGreatDoorZCpuFi
import Derived.Test.YtljjgakfnajifaaGreatDoorZCpuLa
import Derived.Deep.Cut
import Derived.Deep.RegionHeld3
import Derived.Deep.CutRange
namespace Go.Proofs.YtljjgakfnajifaaGreatDoor
open Go.RowKit
set_option maxRecDepth 100000 in
theorem plainFirst_0x {W0 w : World} {c b n : Nat} {s : Cs} {l : Blocks} (hT : Hid (Tabs W0)) (y z p q : Nat) (hy : y < 8) (hz : z < 8) (hp : y / 2 = p) (hq : y % 2 = q) (h : Hid (Co W0 w c b s l (n + 4))) :
    Calls Tryz.prog 88 #[.pointer (some ⟨c, 0, none⟩), .agg #[.int .i64 0, .int .i64 (y : Int), .int .i64 (z : Int), .int .i64 (p : Int), .int .i64 (q : Int)]] w fun e w' => e = .returned (.int .i64 ((s.plain0C y z : Nat) : Int)) ∧ Hid (Co W0 w' c b (s.plain0 y z) l n) := by
  exact plainFirst_at hT 0 y z p q rfl hy hz hp hq h
set_option maxRecDepth 100000 in
theorem move_1x {W0 w : World} {c b n : Nat} {s : Cs} {l : Blocks} (y z p q : Nat) (h : Hid (Co W0 w c b s l (n + 3))) :
    Calls Tryz.prog 89 #[.pointer (some ⟨c, 0, none⟩), .agg #[.int .i64 1, .int .i64 (y : Int), .int .i64 (z : Int), .int .i64 (p : Int), .int .i64 (q : Int)]] w fun e w' => e = .returned (.int .i64 ((s.moveC y z : Nat) : Int)) ∧ Hid (Co W0 w' c b (s.move y z) l n) := by
  exact move_whole 1 y z p q h
set_option maxRecDepth 100000 in
theorem plainLast_3x {W0 w : World} {c b n : Nat} {s : Cs} {l : Blocks} (hT : Hid (Tabs W0)) (y z p q : Nat) (hy : y < 8) (hz : z < 8) (hp : y / 2 = p) (hq : y % 2 = q) (h : Hid (Co W0 w c b s l (n + 4))) :
    Calls Tryz.prog 92 #[.pointer (some ⟨c, 0, none⟩), .agg #[.int .i64 3, .int .i64 (y : Int), .int .i64 (z : Int), .int .i64 (p : Int), .int .i64 (q : Int)]] w fun e w' => e = .returned (.int .i64 ((s.plain3C y z : Nat) : Int)) ∧ Hid (Co W0 w' c b (s.plain3 y z) l n) := by
  exact plainLast_at hT 3 y z p q hy hz hp hq h
set_option maxRecDepth 100000 in
set_option maxHeartbeats 400000 in
theorem plain_0 {W0 w : World} {c b n : Nat} {s : Cs} {l : Blocks} (y z p q : Nat) (hT : Hid (Tabs W0)) (hy : y < 8) (hz : z < 8) (hp : y / 2 = p) (hq : y % 2 = q) (h : Hid (Co W0 w c b s l (n + 4))) :
    Calls Tryz.prog 48 #[.pointer (some ⟨c, 0, none⟩), .agg #[.int .i64 0, .int .i64 (y : Int), .int .i64 (z : Int), .int .i64 (p : Int), .int .i64 (q : Int)]] w fun e w' => e = .returned (.int .i64 ((s.plain0C y z : Nat) : Int)) ∧ Hid (Co W0 w' c b (s.plain0 y z) l n) := by
  obtain ⟨hf, hg, X, hX, hO⟩ := h.out.out
  have HF := Lib.hid hf
  have HF0 := Lib.hid hf
  have HG := Lib.hid hg
  have HX := Lib.hid hX
  have HM := Lib.hid hO
  clear h hf hg hX hO
  have tg1 : Hid True := trivial
  go_enter Tryz.func48, Tryz.ntmps48
  go_wp2_with (first
    | ((with_reducible apply own_cell1 HM); exact rfl; exact rfl; exact dS; exact rfl)
    | ((with_reducible apply cgY HM); exact cgS) | ((with_reducible apply cpY HM); exact cpS; clear HM; intro w' HM) | ((with_reducible apply crY HM); exact crS) | ((with_reducible apply clY HM); exact clS; clear HM; intro w' HM)
    | ((with_reducible apply own_box1 HM); exact rfl; (conv => lhs; whnf); exact rfl; exact rfl; clear tg1 HM; intro w' g1 HM)
    | ((with_reducible apply own_load1 HM); exact rfl; exact rfl; exact tS; exact rfl)
    | (go_at_call 88; have hco := Lib.hid (Co.ok (l := _ :: l) HM.out HG.out HX.out); (with_reducible refine (plainFirst_0x hT y z p q hy hz hp hq hco).mono ?_); clear hco; rintro e w' ⟨rfl, hc⟩; clear HM HF HG HX; obtain ⟨X, HF, HG, HX, HM⟩ := hc.out.hid1; clear hc))
  go_ret
  have hco := Co.ok (l := _ :: l) HM.out HG.out HX.out
  exact ⟨rfl, Lib.hid (hco.drop.less (by omega))⟩
set_option maxRecDepth 100000 in
set_option maxHeartbeats 400000 in
theorem plain_1 {W0 w : World} {c b n : Nat} {s : Cs} {l : Blocks} (y z p q : Nat) (h : Hid (Co W0 w c b s l (n + 4))) :
    Calls Tryz.prog 48 #[.pointer (some ⟨c, 0, none⟩), .agg #[.int .i64 1, .int .i64 (y : Int), .int .i64 (z : Int), .int .i64 (p : Int), .int .i64 (q : Int)]] w fun e w' => e = .returned (.int .i64 ((s.moveC y z : Nat) : Int)) ∧ Hid (Co W0 w' c b (s.move y z) l n) := by
  obtain ⟨hf, hg, X, hX, hO⟩ := h.out.out
  have HF := Lib.hid hf
  have HF0 := Lib.hid hf
  have HG := Lib.hid hg
  have HX := Lib.hid hX
  have HM := Lib.hid hO
  clear h hf hg hX hO
  have tg1 : Hid True := trivial
  go_enter Tryz.func48, Tryz.ntmps48
  go_wp2_with (first
    | ((with_reducible apply own_cell1 HM); exact rfl; exact rfl; exact dS; exact rfl)
    | ((with_reducible apply cgY HM); exact cgS) | ((with_reducible apply cpY HM); exact cpS; clear HM; intro w' HM) | ((with_reducible apply crY HM); exact crS) | ((with_reducible apply clY HM); exact clS; clear HM; intro w' HM)
    | ((with_reducible apply own_box1 HM); exact rfl; (conv => lhs; whnf); exact rfl; exact rfl; clear tg1 HM; intro w' g1 HM)
    | ((with_reducible apply own_load1 HM); exact rfl; exact rfl; exact tS; exact rfl)
    | (go_at_call 89; have hco := Lib.hid (Co.ok (l := _ :: l) HM.out HG.out HX.out); (with_reducible refine (move_1x y z p q hco).mono ?_); clear hco; rintro e w' ⟨rfl, hc⟩; clear HM HF HG HX; obtain ⟨X, HF, HG, HX, HM⟩ := hc.out.hid1; clear hc))
  go_ret
  have hco := Co.ok (l := _ :: l) HM.out HG.out HX.out
  exact ⟨rfl, Lib.hid (hco.drop.less (by omega))⟩
set_option maxRecDepth 100000 in
set_option maxHeartbeats 400000 in
theorem plain_2 {W0 w : World} {c b n : Nat} {s : Cs} {l : Blocks} (y z p q : Nat) (hy : y < 8) (h : Hid (Co W0 w c b s l (n + 4))) :
    Calls Tryz.prog 48 #[.pointer (some ⟨c, 0, none⟩), .agg #[.int .i64 2, .int .i64 (y : Int), .int .i64 (z : Int), .int .i64 (p : Int), .int .i64 (q : Int)]] w fun e w' => e = .returned (.int .i64 ((s.operC z : Nat) : Int)) ∧ Hid (Co W0 w' c b ((s.oper z).sum y (s.operV z)) l n) := by
  obtain ⟨hf, hg, X, hX, hO⟩ := h.out.out
  have HF := Lib.hid hf
  have HF0 := Lib.hid hf
  have HG := Lib.hid hg
  have HX := Lib.hid hX
  have HM := Lib.hid hO
  have v1 : s.operV z < 256 := by unfold Cs.operV; split; exact hf.m _; exact Cs.one_lt hf _
  clear h hf hg hX hO
  have tg1 : Hid True := trivial
  go_enter Tryz.func48, Tryz.ntmps48
  go_wp2_with (first
    | ((with_reducible apply own_cell1 HM); exact rfl; exact rfl; exact dS; exact rfl)
    | ((with_reducible apply cgY HM); exact cgS) | ((with_reducible apply cpY HM); exact cpS; clear HM; intro w' HM) | ((with_reducible apply crY HM); exact crS) | ((with_reducible apply clY HM); exact clS; clear HM; intro w' HM)
    | ((with_reducible apply own_box1 HM); exact rfl; (conv => lhs; whnf); exact rfl; exact rfl; clear tg1 HM; intro w' g1 HM)
    | ((with_reducible apply own_load1 HM); exact rfl; exact rfl; exact tS; exact rfl)
    | (go_at_call 90; have hco := Lib.hid (Co.ok (l := _ :: l) HM.out HG.out HX.out); (with_reducible refine (operand_at z hco).mono ?_); clear hco; rintro e w' ⟨rfl, hc⟩; clear HM HF HG HX; obtain ⟨X, HF, HG, HX, HM⟩ := hc.out.hid1; clear hc)
    | (go_at_call 91; have hco := Lib.hid (Co.ok (l := _ :: l) HM.out HG.out HX.out); (with_reducible refine (sum_at y _ hy v1 hco).mono ?_); clear hco; rintro e w' ⟨rfl, hc⟩; clear HM HF HG HX; obtain ⟨X, HF, HG, HX, HM⟩ := hc.out.hid1; clear hc))
  go_ret
  have hco := Co.ok (l := _ :: l) HM.out HG.out HX.out
  exact ⟨rfl, Lib.hid (hco.drop.less (by omega))⟩
set_option maxRecDepth 100000 in
set_option maxHeartbeats 400000 in
theorem plain_3 {W0 w : World} {c b n : Nat} {s : Cs} {l : Blocks} (y z p q : Nat) (hT : Hid (Tabs W0)) (hy : y < 8) (hz : z < 8) (hp : y / 2 = p) (hq : y % 2 = q) (h : Hid (Co W0 w c b s l (n + 4))) :
    Calls Tryz.prog 48 #[.pointer (some ⟨c, 0, none⟩), .agg #[.int .i64 3, .int .i64 (y : Int), .int .i64 (z : Int), .int .i64 (p : Int), .int .i64 (q : Int)]] w fun e w' => e = .returned (.int .i64 ((s.plain3C y z : Nat) : Int)) ∧ Hid (Co W0 w' c b (s.plain3 y z) l n) := by
  obtain ⟨hf, hg, X, hX, hO⟩ := h.out.out
  have HF := Lib.hid hf
  have HF0 := Lib.hid hf
  have HG := Lib.hid hg
  have HX := Lib.hid hX
  have HM := Lib.hid hO
  clear h hf hg hX hO
  have tg1 : Hid True := trivial
  go_enter Tryz.func48, Tryz.ntmps48
  go_wp2_with (first
    | ((with_reducible apply own_cell1 HM); exact rfl; exact rfl; exact dS; exact rfl)
    | ((with_reducible apply cgY HM); exact cgS) | ((with_reducible apply cpY HM); exact cpS; clear HM; intro w' HM) | ((with_reducible apply crY HM); exact crS) | ((with_reducible apply clY HM); exact clS; clear HM; intro w' HM)
    | ((with_reducible apply own_box1 HM); exact rfl; (conv => lhs; whnf); exact rfl; exact rfl; clear tg1 HM; intro w' g1 HM)
    | ((with_reducible apply own_load1 HM); exact rfl; exact rfl; exact tS; exact rfl)
    | (go_at_call 92; have hco := Lib.hid (Co.ok (l := _ :: l) HM.out HG.out HX.out); (with_reducible refine (plainLast_3x hT y z p q hy hz hp hq hco).mono ?_); clear hco; rintro e w' ⟨rfl, hc⟩; clear HM HF HG HX; obtain ⟨X, HF, HG, HX, HM⟩ := hc.out.hid1; clear hc))
  go_ret
  have hco := Co.ok (l := _ :: l) HM.out HG.out HX.out
  exact ⟨rfl, Lib.hid (hco.drop.less (by omega))⟩
set_option maxRecDepth 100000 in
theorem plain_at {W0 w : World} {c b n : Nat} {s : Cs} {l : Blocks} (hT : Hid (Tabs W0)) (x y z p q : Nat) (hx : x < 4) (hy : y < 8) (hz : z < 8) (hp : y / 2 = p) (hq : y % 2 = q) (h : Hid (Co W0 w c b s l (n + 4))) :
    Calls Tryz.prog 48 #[.pointer (some ⟨c, 0, none⟩), .agg #[.int .i64 (x : Int), .int .i64 (y : Int), .int .i64 (z : Int), .int .i64 (p : Int), .int .i64 (q : Int)]] w fun e w' => e = .returned (.int .i64 ((s.plainC x y z : Nat) : Int)) ∧ Hid (Co W0 w' c b (s.plain x y z) l n) := by
  by_cases h0 : x = 0
  · have e2 : s.plain x y z = s.plain0 y z := if_pos (by omega)
    have e3 : s.plainC x y z = s.plain0C y z := if_pos (by omega)
    rw [e2, e3]; subst h0; rw [show ((0 : Nat) : Int) = 0 from rfl]; exact plain_0 y z p q hT hy hz hp hq h
  by_cases h1 : x = 1
  · have e2 : s.plain x y z = s.move y z := (if_neg (by omega)).trans (if_pos (by omega))
    have e3 : s.plainC x y z = s.moveC y z := (if_neg (by omega)).trans (if_pos (by omega))
    rw [e2, e3]; subst h1; rw [show ((1 : Nat) : Int) = 1 from rfl]; exact plain_1 y z p q h
  by_cases h2 : x = 2
  · have e2 : s.plain x y z = (s.oper z).sum y (s.operV z) := (if_neg (by omega)).trans ((if_neg (by omega)).trans (if_pos (by omega)))
    have e3 : s.plainC x y z = s.operC z := (if_neg (by omega)).trans ((if_neg (by omega)).trans (if_pos (by omega)))
    rw [e2, e3]; subst h2; rw [show ((2 : Nat) : Int) = 2 from rfl]; exact plain_2 y z p q hy h
  by_cases h3 : x = 3
  · have e2 : s.plain x y z = s.plain3 y z := (if_neg (by omega)).trans ((if_neg (by omega)).trans (if_neg (by omega)))
    have e3 : s.plainC x y z = s.plain3C y z := (if_neg (by omega)).trans ((if_neg (by omega)).trans (if_neg (by omega)))
    rw [e2, e3]; subst h3; rw [show ((3 : Nat) : Int) = 3 from rfl]; exact plain_3 y z p q hT hy hz hp hq h
  exact absurd hx (by omega)
end Go.Proofs.YtljjgakfnajifaaGreatDoor
