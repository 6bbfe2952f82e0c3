import Derived.Test.YtljjgakfnajifaaGreatDoorZCpuB1
import Derived.Deep.Cut
import Derived.Deep.CutRange
namespace Go.Proofs.YtljjgakfnajifaaGreatDoor
open Go.RowKit
set_option maxRecDepth 100000 in
set_option maxHeartbeats 400000 in
theorem quick_lo {W0 w : World} {c b n : Nat} {s : Cs} {l : Blocks} (y : Nat) (hy : y < 4) (h : Hid (Co W0 w c b s l (n))) :
    Calls Tryz.prog 161 #[.pointer (some ⟨c, 0, none⟩), .int .i64 (y : Int)] w fun e w' => e = .returned (.tuple #[]) ∧ Hid (Co W0 w' c b (s.quick y) l n) := by
  obtain ⟨hf, hg, X, hX, hO⟩ := h.out.out
  have HF := Lib.hid hf
  have HF0 := Lib.hid hf
  have HG := Lib.hid hg
  have HX := Lib.hid hX
  have HM := Lib.hid hO
  have a1 : s.r.a < 256 := hf.r.a
  have f1 : s.r.f < 256 := hf.r.f
  have y1 : (y : Int) % 4 = ((y : Nat) : Int) := by omega
  have y2 : (y : Int) < 4 := by omega
  obtain ⟨A, hA⟩ : ∃ x, Hid (tV y s.r.a (s.r.f % 2) = x) := ⟨_, rfl⟩
  obtain ⟨B, hB⟩ : ∃ x, Hid (tQuickF y s.r.a (s.r.f % 2) s.r.f = x) := ⟨_, rfl⟩
  have A1 : A < 256 := by rw [← hA.out]; exact tV_lt _ _ _ a1 (by omega)
  have B1 : B < 256 := by rw [← hB.out]; exact tQuickF_lt _ _ _ _
  have E : s.quick y = (s.setA A).setF B := by
    unfold Cs.quick Cs.quickA Cs.quickF
    rw [← hA.out, ← hB.out]
    congr 1
    · congr 1; exact if_pos hy
    · exact if_pos hy
  rw [E]
  clear E h hf hg hX hO
  go_enter Tryz.func161, Tryz.ntmps161
  go_upto_region 2 with fail
  have c0 := HM.out.cells_at .z 0 _ rfl
  have c1 := HM.out.cells_at .z 1 _ rfl
  have fr0 := (HM.out.at_ .z).free 0
  have fr1 := (HM.out.at_ .z).free 1
  have HM2 := Lib.hid ((HM.out.of_cell 0 (v := .int .u8 (A : Int)) .z).of_cell 1 (v := .int .u8 (B : Int)) .z).drew
  clear HM
  go_region_with (first
    | (go_at_call 214; (with_reducible refine (quick_at _ y s.r.a s.r.f _ A B y1 a1 f1 (Lib.hid rfl) hA hB _).mono ?_); rintro e w' ⟨rfl, rfl⟩))
  all_goals go_wp2_with fail
  all_goals go_end0
  all_goals exact ⟨rfl, Lib.hid (Co.made (s := (s.setA A).setF B) HM2.out HG.out HX.out (Cs.setF_fits (Cs.setA_fits HF.out A1) B1))⟩
set_option maxRecDepth 100000 in
set_option maxHeartbeats 400000 in
theorem quick_da {W0 w : World} {c b n : Nat} {s : Cs} {l : Blocks} (y : Nat) (hy : y = 4) (h : Hid (Co W0 w c b s l (n))) :
    Calls Tryz.prog 161 #[.pointer (some ⟨c, 0, none⟩), .int .i64 4] w fun e w' => e = .returned (.tuple #[]) ∧ Hid (Co W0 w' c b (s.quick y) l n) := by
  obtain ⟨hf, hg, X, hX, hO⟩ := h.out.out
  have HF := Lib.hid hf
  have HF0 := Lib.hid hf
  have HG := Lib.hid hg
  have HX := Lib.hid hX
  have HM := Lib.hid hO
  have a1 : s.r.a < 256 := hf.r.a
  have f1 : s.r.f < 256 := hf.r.f
  subst hy
  obtain ⟨A, hA⟩ : ∃ x, Hid (nDaaV s.r.a s.r.f = x) := ⟨_, rfl⟩
  obtain ⟨B, hB⟩ : ∃ x, Hid (nDaaF s.r.a s.r.f = x) := ⟨_, rfl⟩
  have A1 : A < 256 := by rw [← hA.out]; exact nDaaV_lt _ _
  have B1 : B < 256 := by rw [← hB.out]; exact nDaaF_lt _ _
  have E : s.quick 4 = (s.setA A).setF B := by
    unfold Cs.quick Cs.quickA Cs.quickF
    rw [← hA.out, ← hB.out]
    rfl
  rw [E]
  clear E h hf hg hX hO
  go_enter Tryz.func161, Tryz.ntmps161
  go_upto_region 4 with fail
  have c0 := HM.out.cells_at .z 0 _ rfl
  have c1 := HM.out.cells_at .z 1 _ rfl
  have fr0 := (HM.out.at_ .z).free 0
  have fr1 := (HM.out.at_ .z).free 1
  have HM2 := Lib.hid ((HM.out.of_cell 0 (v := .int .u8 (A : Int)) .z).of_cell 1 (v := .int .u8 (B : Int)) .z).drew
  clear HM
  go_region_with (first
    | (go_at_call 215; (with_reducible refine (daa_at s.r.a s.r.f A B a1 f1 hA hB _).mono ?_); rintro e w' ⟨rfl, rfl⟩))
  all_goals go_wp2_with fail
  all_goals go_end0
  all_goals exact ⟨rfl, Lib.hid (Co.made (s := (s.setA A).setF B) HM2.out HG.out HX.out (Cs.setF_fits (Cs.setA_fits HF.out A1) B1))⟩
set_option maxRecDepth 100000 in
set_option maxHeartbeats 400000 in
theorem quick_hi {W0 w : World} {c b n : Nat} {s : Cs} {l : Blocks} (y : Nat) (hy : 4 < y ∧ y < 8) (h : Hid (Co W0 w c b s l (n))) :
    Calls Tryz.prog 161 #[.pointer (some ⟨c, 0, none⟩), .int .i64 (y : Int)] w fun e w' => e = .returned (.tuple #[]) ∧ Hid (Co W0 w' c b (s.quick y) l n) := by
  obtain ⟨hf, hg, X, hX, hO⟩ := h.out.out
  have HF := Lib.hid hf
  have HF0 := Lib.hid hf
  have HG := Lib.hid hg
  have HX := Lib.hid hX
  have HM := Lib.hid hO
  have a1 : s.r.a < 256 := hf.r.a
  have f1 : s.r.f < 256 := hf.r.f
  have y2 : ((y : Int) < 4) = False := by simp; omega
  have y3 : ((y : Int) == 4) = false := by simp; omega
  have y5 : IntKind.i64.wrap ((y : Int) - 5) = (y : Int) - 5 := by rw [IntKind.wrap_i64]; omega
  have y6 : (y : Int) < 8 := by omega
  obtain ⟨A, hA⟩ : ∃ x, Hid (flipV ((y : Int) - 5) s.r.a = x) := ⟨_, rfl⟩
  obtain ⟨B, hB⟩ : ∃ x, Hid (flipF ((y : Int) - 5) s.r.a s.r.f = x) := ⟨_, rfl⟩
  have A1 : A < 256 := by rw [← hA.out]; exact flipV_lt _ _ a1
  have B1 : B < 256 := by rw [← hB.out]; exact flipF_lt _ _ _ f1
  have E : s.quick y = (s.setA A).setF B := by
    unfold Cs.quick Cs.quickA Cs.quickF
    rw [← hA.out, ← hB.out]
    congr 1
    · congr 1; exact (if_neg (by omega)).trans (if_neg (by omega))
    · exact (if_neg (by omega)).trans (if_neg (by omega))
  rw [E]
  clear E h hf hg hX hO
  go_enter Tryz.func161, Tryz.ntmps161
  go_upto_region 0 with fail
  have c0 := HM.out.cells_at .z 0 _ rfl
  have c1 := HM.out.cells_at .z 1 _ rfl
  have fr0 := (HM.out.at_ .z).free 0
  have fr1 := (HM.out.at_ .z).free 1
  have HM2 := Lib.hid ((HM.out.of_cell 0 (v := .int .u8 (A : Int)) .z).of_cell 1 (v := .int .u8 (B : Int)) .z).drew
  clear HM
  go_region_with (first
    | (go_at_call 216; (with_reducible refine (flip_at ((y : Int) - 5) s.r.a s.r.f A B a1 f1 hA hB _).mono ?_); rintro e w' ⟨rfl, rfl⟩))
  all_goals go_wp2_with fail
  all_goals go_end0
  all_goals exact ⟨rfl, Lib.hid (Co.made (s := (s.setA A).setF B) HM2.out HG.out HX.out (Cs.setF_fits (Cs.setA_fits HF.out A1) B1))⟩
end Go.Proofs.YtljjgakfnajifaaGreatDoor
