import Derived.Test.YtljjgakfnajifaaGreatDoorZCpuQk
import Derived.Test.YtljjgakfnajifaaGreatDoorZCpuCntDec
import Derived.Test.YtljjgakfnajifaaGreatDoorZCpuMn
import Derived.Test.YtljjgakfnajifaaGreatDoorZCpuMv
import Derived.Test.YtljjgakfnajifaaGreatDoorZCpuFar
import Derived.Test.YtljjgakfnajifaaGreatDoorZCpuSt
import Derived.Deep.Cut
import Derived.Deep.CutRange
namespace Go.Proofs.YtljjgakfnajifaaGreatDoor
open Go.RowKit
def modeTab : List Int := [0, 0, 1, 2]
theorem modeTab_at (y : Nat) : modeTab.getD (y % 4) 0 = (Cs.modeV y : Int) := by
  unfold Cs.modeV
  have h : y % 4 < 4 := Nat.mod_lt _ (by decide)
  generalize y % 4 = k at h
  match k, h with
  | 0, _ | 1, _ | 2, _ | 3, _ => rfl
structure Tabs (w : World) : Prop where
  ask : Tab w
  mode : ∀ j : Nat, j < 4 → w.cell? ⟨0, j, none⟩ = some (.int .u8 (modeTab.getD j 0))
theorem Tabs.under {B : Nat} {w w' : World} (h : Tabs w) (hb : Below B w w') (hB : w.heap.size ≤ B) : Tabs w' := ⟨h.ask.under hb hB, fun j hj =>
  (hb.cell (p := ⟨0, j, none⟩) (Nat.lt_of_lt_of_le (block_lt_of_cell (h.mode j hj)) hB)).trans (h.mode j hj)⟩
theorem Tabs.own {w0 w : World} {l : Blocks} (h : Hid (Tabs w0)) (HM : Hid (Own w0 w l)) : Tabs w := h.out.under HM.out.below (Nat.le_refl _)
theorem Co.tabs {W0 w : World} {c b n : Nat} {s : Cs} {l : Blocks} (h : Hid (Co W0 w c b s l n)) (hT : Hid (Tabs W0)) : Tabs w := by
  obtain ⟨_, _, X, hX, hO⟩ := h.out.out
  exact hT.out.under hO.below (Nat.le_refl _)
set_option maxRecDepth 100000 in
set_option maxHeartbeats 400000 in
theorem operand_reg {W0 w : World} {c b n : Nat} {s : Cs} {l : Blocks} (i : Int) (hi : ¬ i = 6) (h : Hid (Co W0 w c b s l (n))) :
    Calls Tryz.prog 90 #[.pointer (some ⟨c, 0, none⟩), .int .i64 i] w fun e w' => e = .returned (.tuple #[.int .u8 (s.one i : Int), .int .i64 4]) ∧ Hid (Co W0 w' c b (s) l n) := by
  obtain ⟨hf, hg, X, hX, hO⟩ := h.out.out
  have HF := Lib.hid hf
  have HF0 := Lib.hid hf
  have HG := Lib.hid hg
  have HX := Lib.hid hX
  have HM := Lib.hid hO
  have i1 : (i == 6) = false := by simp; exact hi
  clear hi h hf hg hX hO
  go_enter Tryz.func90, Tryz.ntmps90
  go_wp2_with (first
    | ((with_reducible apply cgY HM); exact cgS) | ((with_reducible apply cpY HM); exact cpS; clear HM; intro w' HM) | ((with_reducible apply crY HM); exact crS) | ((with_reducible apply clY HM); exact clS; clear HM; intro w' HM)
    | (go_at_call 84; (with_reducible refine (cone_q .z HM HF.out _).mono ?_); rintro e w' ⟨rfl, hb⟩; replace HM := Lib.hid (HM.out.call hb); clear hb))
  go_ret2
  have hco := Co.ok HM.out HG.out HX.out
  exact ⟨rfl, Lib.hid (hco.less (by omega))⟩
set_option maxRecDepth 100000 in
theorem operand_at {W0 w : World} {c b n : Nat} {s : Cs} {l : Blocks} (i : Nat) (h : Hid (Co W0 w c b s l (n + 2))) :
    Calls Tryz.prog 90 #[.pointer (some ⟨c, 0, none⟩), .int .i64 (i : Int)] w fun e w' => e = .returned (.tuple #[.int .u8 (s.operV i : Int), .int .i64 ((s.operC i : Nat) : Int)]) ∧ Hid (Co W0 w' c b (s.oper i) l n) := by
  by_cases hi : i = 6
  · subst hi
    rw [show ((6 : Nat) : Int) = 6 from rfl]
    have e1 : s.operV 6 = s.m s.pointV := if_pos rfl
    have e2 : s.oper 6 = s.point.rd s.pointV := if_pos rfl
    rw [e1, e2]
    by_cases hp : s.px = 0
    · have e3 : s.operC 6 = 7 := (if_pos rfl).trans (if_pos hp)
      rw [e3]; exact operand_near hp h
    · have e3 : s.operC 6 = 15 := (if_pos rfl).trans (if_neg hp)
      rw [e3]; exact operand_far hp h
  · have hi' : ¬ (i : Int) = 6 := by omega
    have e1 : s.operV i = s.one i := if_neg hi'
    have e2 : s.oper i = s := if_neg hi'
    have e3 : s.operC i = 4 := if_neg hi'
    rw [e1, e2, e3]
    exact (operand_reg (n := n + 2) (i : Int) hi' h).mono fun _ _ ⟨he, hh⟩ => ⟨he, Lib.hid (hh.out.less (by omega))⟩
set_option maxRecDepth 100000 in
theorem count_at_Inc {W0 w : World} {c b n : Nat} {s : Cs} {l : Blocks} (y : Nat) (h : Hid (Co W0 w c b s l (n + 3))) :
    Calls Tryz.prog 157 #[.pointer (some ⟨c, 0, none⟩), .int .i64 (y : Int), Value.func (Fn.func 158) #[] #[]] w fun e w' => e = .returned (.int .i64 ((s.countC y : Nat) : Int)) ∧ Hid (Co W0 w' c b (s.count (y : Int) false) l n) := by
  by_cases hy : y = 6
  · subst hy
    rw [show ((6 : Nat) : Int) = 6 from rfl]
    by_cases hp : s.px = 0
    · have e3 : s.countC 6 = 11 := (if_pos rfl).trans (if_pos hp)
      rw [e3]; exact count_mem_near_Inc hp h
    · have e3 : s.countC 6 = 19 := (if_pos rfl).trans (if_neg hp)
      rw [e3]; exact count_mem_far_Inc hp h
  · have e3 : s.countC y = 4 := if_neg hy
    rw [e3]
    exact (count_reg_Inc (n := n + 2) (y : Int) (by omega) h).mono fun _ _ ⟨he, hh⟩ => ⟨he, Lib.hid (hh.out.less (by omega))⟩
set_option maxRecDepth 100000 in
theorem count_at_Dec {W0 w : World} {c b n : Nat} {s : Cs} {l : Blocks} (y : Nat) (h : Hid (Co W0 w c b s l (n + 3))) :
    Calls Tryz.prog 157 #[.pointer (some ⟨c, 0, none⟩), .int .i64 (y : Int), Value.func (Fn.func 159) #[] #[]] w fun e w' => e = .returned (.int .i64 ((s.countC y : Nat) : Int)) ∧ Hid (Co W0 w' c b (s.count (y : Int) true) l n) := by
  by_cases hy : y = 6
  · subst hy
    rw [show ((6 : Nat) : Int) = 6 from rfl]
    by_cases hp : s.px = 0
    · have e3 : s.countC 6 = 11 := (if_pos rfl).trans (if_pos hp)
      rw [e3]; exact count_mem_near_Dec hp h
    · have e3 : s.countC 6 = 19 := (if_pos rfl).trans (if_neg hp)
      rw [e3]; exact count_mem_far_Dec hp h
  · have e3 : s.countC y = 4 := if_neg hy
    rw [e3]
    exact (count_reg_Dec (n := n + 2) (y : Int) (by omega) h).mono fun _ _ ⟨he, hh⟩ => ⟨he, Lib.hid (hh.out.less (by omega))⟩
set_option maxRecDepth 100000 in
theorem moveNext_at {W0 w : World} {c b n : Nat} {s : Cs} {l : Blocks} (y : Nat) (h : Hid (Co W0 w c b s l (n + 3))) :
    Calls Tryz.prog 160 #[.pointer (some ⟨c, 0, none⟩), .int .i64 (y : Int)] w fun e w' => e = .returned (.int .i64 ((s.moveNextC y : Nat) : Int)) ∧ Hid (Co W0 w' c b (s.moveNext y) l n) := by
  by_cases hy : y = 6
  · subst hy
    rw [show ((6 : Nat) : Int) = 6 from rfl]
    have e2 : s.moveNext 6 = s.point.next.wr s.pointV s.point.nextV := if_pos rfl
    rw [e2]
    by_cases hp : s.px = 0
    · have e3 : s.moveNextC 6 = 10 := (if_pos rfl).trans (if_pos hp)
      rw [e3]; exact moveNext_near hp h
    · have e3 : s.moveNextC 6 = 15 := (if_pos rfl).trans (if_neg hp)
      rw [e3]; exact moveNext_far hp h
  · have e2 : s.moveNext y = s.next.setOne y s.nextV := if_neg hy
    have e3 : s.moveNextC y = 7 := if_neg hy
    rw [e2, e3]
    exact (moveNext_reg (n := n + 1) (y : Int) (by omega) h).mono fun _ _ ⟨he, hh⟩ => ⟨he, Lib.hid (hh.out.less (by omega))⟩
set_option maxRecDepth 100000 in
theorem move_whole {W0 w : World} {c b n : Nat} {s : Cs} {l : Blocks} (x y z p q : Nat) (h : Hid (Co W0 w c b s l (n + 3))) :
    Calls Tryz.prog 89 #[.pointer (some ⟨c, 0, none⟩), .agg #[.int .i64 (x : Int), .int .i64 (y : Int), .int .i64 (z : Int), .int .i64 (p : Int), .int .i64 (q : Int)]] w fun e w' => e = .returned (.int .i64 ((s.moveC y z : Nat) : Int)) ∧ Hid (Co W0 w' c b (s.move y z) l n) := by
  by_cases hy : y = 6
  · subst hy
    rw [show ((6 : Nat) : Int) = 6 from rfl]
    by_cases hz : z = 6
    · subst hz
      rw [show ((6 : Nat) : Int) = 6 from rfl]
      have e2 : s.move 6 6 = s.setHT true := (if_pos rfl).trans (if_pos rfl)
      have e3 : s.moveC 6 6 = 4 := (if_pos rfl).trans (if_pos rfl)
      rw [e2, e3]
      exact (move_halt (n := n + 3) x p q h).mono fun _ _ ⟨he, hh⟩ => ⟨he, Lib.hid (hh.out.less (by omega))⟩
    · have e2 : s.move 6 z = s.point.wr s.pointV (s.own z) := (if_pos rfl).trans (if_neg hz)
      rw [e2]
      by_cases hp : s.px = 0
      · have e3 : s.moveC 6 z = 7 := (if_pos rfl).trans ((if_neg hz).trans (if_pos hp))
        rw [e3]; exact move_to_near x z p q hz hp h
      · have e3 : s.moveC 6 z = 15 := (if_pos rfl).trans ((if_neg hz).trans (if_neg hp))
        rw [e3]; exact move_to_far x z p q hz hp h
  · by_cases hz : z = 6
    · subst hz
      rw [show ((6 : Nat) : Int) = 6 from rfl]
      have e2 : s.move y 6 = (s.point.rd s.pointV).setOwn y (s.m s.pointV) := (if_neg hy).trans (if_pos rfl)
      rw [e2]
      by_cases hp : s.px = 0
      · have e3 : s.moveC y 6 = 7 := (if_neg hy).trans ((if_pos rfl).trans (if_pos hp))
        rw [e3]; exact move_from_near x y p q hy hp h
      · have e3 : s.moveC y 6 = 15 := (if_neg hy).trans ((if_pos rfl).trans (if_neg hp))
        rw [e3]; exact move_from_far x y p q hy hp h
    · have e2 : s.move y z = s.setOne y (s.one z) := (if_neg hy).trans (if_neg hz)
      have e3 : s.moveC y z = 4 := (if_neg hy).trans (if_neg hz)
      rw [e2, e3]
      exact (move_regs (n := n + 3) x y z p q hy hz h).mono fun _ _ ⟨he, hh⟩ => ⟨he, Lib.hid (hh.out.less (by omega))⟩
set_option maxRecDepth 100000 in
theorem cquick_at {W0 w : World} {c b n : Nat} {s : Cs} {l : Blocks} (y : Nat) (hy : y < 8) (h : Hid (Co W0 w c b s l (n))) :
    Calls Tryz.prog 161 #[.pointer (some ⟨c, 0, none⟩), .int .i64 (y : Int)] w fun e w' => e = .returned (.tuple #[]) ∧ Hid (Co W0 w' c b (s.quick y) l n) := by
  by_cases h1 : y < 4
  · exact quick_lo y h1 h
  · by_cases h2 : y = 4
    · subst h2
      rw [show ((4 : Nat) : Int) = 4 from rfl]
      exact quick_da 4 rfl h
    · exact quick_hi y (by omega) h
set_option maxRecDepth 100000 in
theorem starts_at {W0 w : World} {c b n : Nat} {s : Cs} {l : Blocks} (hT : Hid (Tabs W0)) (y : Nat) (hy : y < 8) (h : Hid (Co W0 w c b s l (n + 1))) :
    Calls Tryz.prog 151 #[.pointer (some ⟨c, 0, none⟩), .int .i64 (y : Int)] w fun e w' => e = .returned (.int .i64 ((s.startsC y : Nat) : Int)) ∧ Hid (Co W0 w' c b (s.starts y) l n) := by
  by_cases h0 : y = 0
  · subst h0
    rw [show ((0 : Nat) : Int) = 0 from rfl]
    have e2 : s.starts 0 = s := if_pos (by omega)
    have e3 : s.startsC 0 = 4 := if_pos (by omega)
    rw [e2, e3]; exact starts_0 h
  by_cases h1 : y = 1
  · subst h1
    rw [show ((1 : Nat) : Int) = 1 from rfl]
    have e2 : s.starts 1 = s.setR (s.r.swap false) := (if_neg (by omega)).trans (if_pos (by omega))
    have e3 : s.startsC 1 = 4 := (if_neg (by omega)).trans (if_pos (by omega))
    rw [e2, e3]; exact starts_1 h
  by_cases h2 : y = 2
  · subst h2
    rw [show ((2 : Nat) : Int) = 2 from rfl]
    have e2 : s.starts 2 = (s.setB s.decB).hop (decide (s.decB ≠ 0)) := (if_neg (by omega)).trans ((if_neg (by omega)).trans (if_pos (by omega)))
    have e3 : s.startsC 2 = Cs.hopC (decide (s.decB ≠ 0)) 13 := (if_neg (by omega)).trans ((if_neg (by omega)).trans (if_pos (by omega)))
    rw [e2, e3]; exact starts_2 h
  by_cases h3 : y = 3
  · subst h3
    rw [show ((3 : Nat) : Int) = 3 from rfl]
    have e2 : s.starts 3 = s.hop true := (if_neg (by omega)).trans ((if_neg (by omega)).trans ((if_neg (by omega)).trans (if_pos (by omega))))
    have e3 : s.startsC 3 = Cs.hopC true 12 := (if_neg (by omega)).trans ((if_neg (by omega)).trans ((if_neg (by omega)).trans (if_pos (by omega))))
    rw [e2, e3]; exact starts_3 h
  have e2 : s.starts y = s.hop (rgMet s.r.f (y - 4)) := (if_neg (by omega)).trans ((if_neg (by omega)).trans ((if_neg (by omega)).trans (if_neg (by omega))))
  have e3 : s.startsC y = Cs.hopC (rgMet s.r.f (y - 4)) 12 := (if_neg (by omega)).trans ((if_neg (by omega)).trans ((if_neg (by omega)).trans (if_neg (by omega))))
  rw [e2, e3]; exact starts_if (Co.tabs h hT).ask y (by omega) h
set_option maxRecDepth 100000 in
theorem moveFar_at {W0 w : World} {c b n : Nat} {s : Cs} {l : Blocks} (y p q : Nat) (hy : y < 8) (hp : y / 2 = p) (hq : y % 2 = q) (h : Hid (Co W0 w c b s l (n + 4))) :
    Calls Tryz.prog 155 #[.pointer (some ⟨c, 0, none⟩), .agg #[.int .i64 0, .int .i64 (y : Int), .int .i64 2, .int .i64 (p : Int), .int .i64 (q : Int)]] w fun e w' => e = .returned (.int .i64 ((Cs.moveFarC y : Nat) : Int)) ∧ Hid (Co W0 w' c b (s.moveFar y) l n) := by
  by_cases h0 : p = 0
  · subst h0
    rw [show ((0 : Nat) : Int) = 0 from rfl]
    have e2 : s.moveFar y = s.moveA (y % 2) (s.pair 0) := if_pos (by omega)
    have e3 : Cs.moveFarC y = 7 := if_pos (by omega)
    rw [e2, e3, hq]; exact moveFar_0 y q h
  by_cases h1 : p = 1
  · subst h1
    rw [show ((1 : Nat) : Int) = 1 from rfl]
    have e2 : s.moveFar y = s.moveA (y % 2) (s.pair 1) := (if_neg (by omega)).trans (if_pos (by omega))
    have e3 : Cs.moveFarC y = 7 := (if_neg (by omega)).trans (if_pos (by omega))
    rw [e2, e3, hq]; exact moveFar_1 y q h
  by_cases h2 : p = 2
  · subst h2
    rw [show ((2 : Nat) : Int) = 2 from rfl]
    have e2 : s.moveFar y = s.movePair (y % 2) 2 := (if_neg (by omega)).trans ((if_neg (by omega)).trans (if_pos (by omega)))
    have e3 : Cs.moveFarC y = 16 := (if_neg (by omega)).trans ((if_neg (by omega)).trans (if_pos (by omega)))
    rw [e2, e3, hq]; exact moveFar_2 y q h
  have h3 : p = 3 := by omega
  subst h3
  rw [show ((3 : Nat) : Int) = 3 from rfl]
  have e2 : s.moveFar y = s.nextNum.moveA (y % 2) s.nextNumV := (if_neg (by omega)).trans ((if_neg (by omega)).trans (if_neg (by omega)))
  have e3 : Cs.moveFarC y = 13 := (if_neg (by omega)).trans ((if_neg (by omega)).trans (if_neg (by omega)))
  rw [e2, e3, hq]; exact moveFar_3 y q h
set_option maxRecDepth 100000 in
theorem countPair_at {W0 w : World} {c b n : Nat} {s : Cs} {l : Blocks} (x y p q : Nat) (hp : y / 2 = p) (hq : y % 2 = q) (h : Hid (Co W0 w c b s l (n))) :
    Calls Tryz.prog 156 #[.pointer (some ⟨c, 0, none⟩), .agg #[.int .i64 (x : Int), .int .i64 (y : Int), .int .i64 3, .int .i64 (p : Int), .int .i64 (q : Int)]] w fun e w' => e = .returned (.tuple #[]) ∧ Hid (Co W0 w' c b (s.countPair y) l n) := by
  by_cases h0 : q = 0
  · subst h0
    rw [show ((0 : Nat) : Int) = 0 from rfl]
    have e2 : s.countPair y = s.setPair (p : Nat) (up1 (s.pair (p : Nat))) := by rw [← hp]; exact if_pos hq
    rw [e2]; exact countPair_0 x y 3 p h
  · have h1 : q = 1 := by omega
    subst h1
    rw [show ((1 : Nat) : Int) = 1 from rfl]
    have e2 : s.countPair y = s.setPair (p : Nat) (dn1 (s.pair (p : Nat))) := by rw [← hp]; exact if_neg (by omega)
    rw [e2]; exact countPair_1 x y 3 p h
end Go.Proofs.YtljjgakfnajifaaGreatDoor
