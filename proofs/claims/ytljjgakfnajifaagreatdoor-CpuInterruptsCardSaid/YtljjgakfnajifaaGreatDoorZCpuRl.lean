import Derived.Test.YtljjgakfnajifaaGreatDoorZCpuRi
import Derived.Deep.Cut
import Derived.Deep.CutRange
namespace Go.Proofs.YtljjgakfnajifaaGreatDoor
open Go.RowKit
theorem Cs.goTo_numV (s : Cs) (c a : Nat) : (s.goTo c).numV a = s.numV a := rfl
theorem Cs.line_as (s : Cs) (z : Nat) : (((s.setQ1 false).wake).push z).setQ2 false = (((s.setQ1 false).setQ2 false).wake).push z := by rw [Cs.push_q2, Cs.wake_q2]
set_option maxHeartbeats 400000 in
theorem rinter_at {W0 w : World} {b n : Nat} {s : Cs} {l : Blocks} (pause line : Bool) (hr : s.r.Fits) (h : Hid (Fx W0 w b s.u l (n + 4))) :
    Calls Tryz.prog 21 #[s.r.v, .pointer (some ⟨b, 0, none⟩), .bool pause, .bool line] w fun e w' => e = .returned (.tuple #[(s.inter pause line).r.v, .int .i64 ((s.interC pause line : Nat) : Int)]) ∧ Hid (Fx W0 w' b (s.inter pause line).u l n) := by
  unfold Cs.inter Cs.interC
  by_cases hp : s.r.px = 0
  · have e0 : Nat.beq s.r.px 0 = true := by rw [hp]; rfl
    cases pause
    · cases line
      · have e : s.takes false false = false := by unfold Cs.takes; rw [e0]; rfl
        rw [e]; exact rin_no1 hp hr h
      · cases h1 : s.r.q1
        · have e : s.takes false true = false := by unfold Cs.takes; rw [e0, h1]; rfl
          rw [e]; exact rin_no2 hp h1 hr h
        · cases h2 : s.r.dl
          · have e : s.takes false true = true := by unfold Cs.takes; rw [e0, h1, h2]; rfl
            rw [e]
            obtain ⟨z, hz⟩ : ∃ z, Hid (s.r.pc = z) := ⟨_, rfl⟩
            obtain ⟨Y, hY⟩ : ∃ Y, ((s.setQ1 false).setQ2 false).wake = Y := ⟨_, rfl⟩
            have yi : Y.r.i = s.r.i := by rw [← hY]; rfl
            have yz : Y.r.pc = z := by rw [← hY]; exact hz.out
            have ym : Y.r.im = s.r.im := by rw [← hY]; rfl
            by_cases hi : s.r.im = 2
            · have r2 := rin_line2 (n := n) hp h1 h2 hi z hz hr h
              rw [Cs.line_as, hY] at r2
              have e2 : Y.lineCame = ((((Y.push z).goTo 56).num (s.r.i * 256 + 255)).goTo (((Y.push z).goTo 56).numV (s.r.i * 256 + 255))) := by
                unfold Cs.lineCame; rw [if_pos (ym.trans hi), yi, yz, Cs.goTo_num, Cs.goTo_numV]
              have e3 : s.lineCameC = 19 := if_pos hi
              simp only [cond_true, cond_false, hY, e2, e3]
              exact r2
            · have r2 := rin_line (n := n) hp h1 h2 hi z hz hr h
              rw [Cs.line_as, hY] at r2
              have e2 : Y.lineCame = (Y.push z).goTo 56 := by
                unfold Cs.lineCame; rw [if_neg (fun c => hi (ym.symm.trans c))]; unfold Cs.start; rw [yz]
              have e3 : s.lineCameC = 13 := if_neg hi
              simp only [cond_true, cond_false, hY, e2, e3]
              exact r2
          · have e : s.takes false true = false := by unfold Cs.takes; rw [e0, h1, h2]; rfl
            rw [e]; exact rin_no3 hp h1 h2 hr h
    · have e : s.takes true line = true := by unfold Cs.takes; rw [e0]; rfl
      rw [e]; exact rin_pause line hp hr h
  · have e0 : Nat.beq s.r.px 0 = false := by rw [← Bool.not_eq_true, Nat.beq_eq]; exact hp
    have e : s.takes pause line = false := by unfold Cs.takes; rw [e0]; rfl
    rw [e]; exact rin_px pause line hp hr h
end Go.Proofs.YtljjgakfnajifaaGreatDoor
