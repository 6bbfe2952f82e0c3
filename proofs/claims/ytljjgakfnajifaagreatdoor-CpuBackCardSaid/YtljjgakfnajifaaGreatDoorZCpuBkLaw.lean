import Derived.Test.YtljjgakfnajifaaGreatDoorZBase
import Derived.Test.YtljjgakfnajifaaGreatDoorZCpuAw
import Derived.Test.YtljjgakfnajifaaGreatDoorZCpuGoA
import Derived.Deep.Cut
import Derived.Deep.CutRange
import Derived.ProofKit
import Derived.OpenShut
import Derived.ChangeOld
import Derived.Below
import Derived.ChangeArms
import Derived.Lib.SmallJoins
import Derived.LaidMore
import Derived.Stop.Joined
import Derived.Lib.LaidTab
import Derived.MakeChecks
import Derived.SevenTiedAt
import Derived.Test.YtljjgakfnajifaaGreatDoorTie
import Derived.Test.YtljjgakfnajifaaGreatDoorCards
namespace Go.Proofs.YtljjgakfnajifaaGreatDoor
open Go.RowKit
set_option maxRecDepth 100000 in
set_option maxHeartbeats 1600000 in
theorem rrightRegs (r : Rg) (b : Bool) (hb : Hid (r.right = b)) (w : World) : Calls Tryz.prog 17 #[r.v] w fun e w' => e = .returned (.bool b) ∧ Below w.heap.size w w' := by
  by_cases h0 : (r.im : Int) < 3
  · have h0' : r.im ≤ 2 := by omega
    rcases (show r.px = 0 ∨ r.px = 221 ∨ r.px = 253 ∨ (¬ r.px = 0 ∧ ¬ r.px = 221 ∧ ¬ r.px = 253) by omega) with h1 | h1 | h1 | ⟨h1, h2, h3⟩
    · have e : b = true := by rw [← hb.out]; simp [Rg.right, h0', h1]
      clear hb h0'
      obtain ⟨a, f, b, c, d, e1, h, l, x0, x1, x2, x3, x4, x5, x6, x7, ix, iy, sp, pc, wz, i, r, im, px, q1, q2, ht, dl⟩ := r
      simp only at h1 h0
      subst e h1
      have HM := Lib.hid (Own.start w)
      have tg1 : Hid True := trivial
      go_enter Tryz.func17, Tryz.ntmps17
      go_upto_region 1 with (first | ((with_reducible apply own_box HM); exact rfl; (conv => lhs; whnf); exact rfl; exact rfl; (first | (clear tg1 HM; intro w' g1 HM) | (clear tg2 HM; intro w' g2 HM) | (clear tg3 HM; intro w' g3 HM) | (clear tg4 HM; intro w' g4 HM) | (clear HM; intro w' g' HM)); all_goals skip))
      (refine own_inorder HM ?_; (try simp only [Act.put, List.setIfInBounds_toArray, List.set_cons_zero, List.set_cons_succ]); repeat ((fail_if_success (with_reducible refine wpQuiet_nil ?_)); first | go_big_quiet_skip | (go_big_quiet_want; first | ((with_reducible apply quiet_row); exact rfl; exact aggR; (with_reducible first | exact .z | exact .s .z | exact .s (.s .z) | exact .s (.s (.s .z)) | exact .s (.s (.s (.s .z)))); (first | exact Rg.cells_length _ | exact rfl); go_big_quiet_op; go_big_quiet_on) | ((with_reducible apply quiet_get); exact rfl; (first | (with_reducible exact oneU8) | (with_reducible exact oneU16) | (with_reducible exact oneBool)); (with_reducible first | exact .z | exact .s .z | exact .s (.s .z) | exact .s (.s (.s .z)) | exact .s (.s (.s (.s .z)))); exact rfl; go_big_quiet_op; go_big_quiet_on) | ((with_reducible apply quiet_load); exact rfl; (with_reducible exact aggAlt); (with_reducible first | exact .z | exact .s .z | exact .s (.s .z) | exact .s (.s (.s .z)) | exact .s (.s (.s (.s .z)))); exact Rg.altDrop _; exact Rg.altTake _; go_big_quiet_op; go_big_quiet_on) | (go_big_quiet_op; go_big_quiet_on) | (go_big_quiet_op; refine ⟨_, fun _ _ => rfl, ?_⟩; go_big_quiet_on))))
      refine wpQuiet_nil ?_
      intro w' HM'
      clear HM; have HM := HM'; clear HM'
      go_wp2_with fail
      go_ret
      exact ⟨rfl, Own.fin HM⟩
    · have e : b = true := by rw [← hb.out]; simp [Rg.right, h0', h1]
      have h4 : ((r.px : Int) == 0) = false := by rw [h1]; rfl
      have h5 : ((r.px : Int) == 221) = true := by rw [h1]; rfl
      subst e
      have HM := Lib.hid (Own.start w)
      have tg1 : Hid True := trivial
      go_enter Tryz.func17, Tryz.ntmps17
      go_upto_region 1 with (first | ((with_reducible apply own_box HM); exact rfl; (conv => lhs; whnf); exact rfl; exact rfl; (first | (clear tg1 HM; intro w' g1 HM) | (clear tg2 HM; intro w' g2 HM) | (clear tg3 HM; intro w' g3 HM) | (clear tg4 HM; intro w' g4 HM) | (clear HM; intro w' g' HM)); all_goals skip))
      (refine own_inorder HM ?_; (try simp only [Act.put, List.setIfInBounds_toArray, List.set_cons_zero, List.set_cons_succ]); repeat ((fail_if_success (with_reducible refine wpQuiet_nil ?_)); first | go_big_quiet_skip | (go_big_quiet_want; first | ((with_reducible apply quiet_row); exact rfl; exact aggR; (with_reducible first | exact .z | exact .s .z | exact .s (.s .z) | exact .s (.s (.s .z)) | exact .s (.s (.s (.s .z)))); (first | exact Rg.cells_length _ | exact rfl); go_big_quiet_op; go_big_quiet_on) | ((with_reducible apply quiet_get); exact rfl; (first | (with_reducible exact oneU8) | (with_reducible exact oneU16) | (with_reducible exact oneBool)); (with_reducible first | exact .z | exact .s .z | exact .s (.s .z) | exact .s (.s (.s .z)) | exact .s (.s (.s (.s .z)))); exact rfl; go_big_quiet_op; go_big_quiet_on) | ((with_reducible apply quiet_load); exact rfl; (with_reducible exact aggAlt); (with_reducible first | exact .z | exact .s .z | exact .s (.s .z) | exact .s (.s (.s .z)) | exact .s (.s (.s (.s .z)))); exact Rg.altDrop _; exact Rg.altTake _; go_big_quiet_op; go_big_quiet_on) | (go_big_quiet_op; go_big_quiet_on) | (go_big_quiet_op; refine ⟨_, fun _ _ => rfl, ?_⟩; go_big_quiet_on))))
      refine wpQuiet_nil ?_
      intro w' HM'
      clear HM; have HM := HM'; clear HM'
      go_wp2_with fail
      go_ret
      exact ⟨rfl, Own.fin HM⟩
    · have e : b = true := by rw [← hb.out]; simp [Rg.right, h0', h1]
      have h4 : ((r.px : Int) == 0) = false := by rw [h1]; rfl
      have h5 : ((r.px : Int) == 221) = false := by rw [h1]; rfl
      have h6 : ((r.px : Int) == 253) = true := by rw [h1]; rfl
      subst e
      have HM := Lib.hid (Own.start w)
      have tg1 : Hid True := trivial
      go_enter Tryz.func17, Tryz.ntmps17
      go_upto_region 1 with (first | ((with_reducible apply own_box HM); exact rfl; (conv => lhs; whnf); exact rfl; exact rfl; (first | (clear tg1 HM; intro w' g1 HM) | (clear tg2 HM; intro w' g2 HM) | (clear tg3 HM; intro w' g3 HM) | (clear tg4 HM; intro w' g4 HM) | (clear HM; intro w' g' HM)); all_goals skip))
      (refine own_inorder HM ?_; (try simp only [Act.put, List.setIfInBounds_toArray, List.set_cons_zero, List.set_cons_succ]); repeat ((fail_if_success (with_reducible refine wpQuiet_nil ?_)); first | go_big_quiet_skip | (go_big_quiet_want; first | ((with_reducible apply quiet_row); exact rfl; exact aggR; (with_reducible first | exact .z | exact .s .z | exact .s (.s .z) | exact .s (.s (.s .z)) | exact .s (.s (.s (.s .z)))); (first | exact Rg.cells_length _ | exact rfl); go_big_quiet_op; go_big_quiet_on) | ((with_reducible apply quiet_get); exact rfl; (first | (with_reducible exact oneU8) | (with_reducible exact oneU16) | (with_reducible exact oneBool)); (with_reducible first | exact .z | exact .s .z | exact .s (.s .z) | exact .s (.s (.s .z)) | exact .s (.s (.s (.s .z)))); exact rfl; go_big_quiet_op; go_big_quiet_on) | ((with_reducible apply quiet_load); exact rfl; (with_reducible exact aggAlt); (with_reducible first | exact .z | exact .s .z | exact .s (.s .z) | exact .s (.s (.s .z)) | exact .s (.s (.s (.s .z)))); exact Rg.altDrop _; exact Rg.altTake _; go_big_quiet_op; go_big_quiet_on) | (go_big_quiet_op; go_big_quiet_on) | (go_big_quiet_op; refine ⟨_, fun _ _ => rfl, ?_⟩; go_big_quiet_on))))
      refine wpQuiet_nil ?_
      intro w' HM'
      clear HM; have HM := HM'; clear HM'
      go_wp2_with fail
      go_ret
      exact ⟨rfl, Own.fin HM⟩
    · have e : b = false := by rw [← hb.out]; simp [Rg.right, h1, h2, h3]
      have h4 : ((r.px : Int) == 0) = false := by simp; omega
      have h5 : ((r.px : Int) == 221) = false := by simp; omega
      have h6 : ((r.px : Int) == 253) = false := by simp; omega
      subst e
      have HM := Lib.hid (Own.start w)
      have tg1 : Hid True := trivial
      go_enter Tryz.func17, Tryz.ntmps17
      go_upto_region 1 with (first | ((with_reducible apply own_box HM); exact rfl; (conv => lhs; whnf); exact rfl; exact rfl; (first | (clear tg1 HM; intro w' g1 HM) | (clear tg2 HM; intro w' g2 HM) | (clear tg3 HM; intro w' g3 HM) | (clear tg4 HM; intro w' g4 HM) | (clear HM; intro w' g' HM)); all_goals skip))
      (refine own_inorder HM ?_; (try simp only [Act.put, List.setIfInBounds_toArray, List.set_cons_zero, List.set_cons_succ]); repeat ((fail_if_success (with_reducible refine wpQuiet_nil ?_)); first | go_big_quiet_skip | (go_big_quiet_want; first | ((with_reducible apply quiet_row); exact rfl; exact aggR; (with_reducible first | exact .z | exact .s .z | exact .s (.s .z) | exact .s (.s (.s .z)) | exact .s (.s (.s (.s .z)))); (first | exact Rg.cells_length _ | exact rfl); go_big_quiet_op; go_big_quiet_on) | ((with_reducible apply quiet_get); exact rfl; (first | (with_reducible exact oneU8) | (with_reducible exact oneU16) | (with_reducible exact oneBool)); (with_reducible first | exact .z | exact .s .z | exact .s (.s .z) | exact .s (.s (.s .z)) | exact .s (.s (.s (.s .z)))); exact rfl; go_big_quiet_op; go_big_quiet_on) | ((with_reducible apply quiet_load); exact rfl; (with_reducible exact aggAlt); (with_reducible first | exact .z | exact .s .z | exact .s (.s .z) | exact .s (.s (.s .z)) | exact .s (.s (.s (.s .z)))); exact Rg.altDrop _; exact Rg.altTake _; go_big_quiet_op; go_big_quiet_on) | (go_big_quiet_op; go_big_quiet_on) | (go_big_quiet_op; refine ⟨_, fun _ _ => rfl, ?_⟩; go_big_quiet_on))))
      refine wpQuiet_nil ?_
      intro w' HM'
      clear HM; have HM := HM'; clear HM'
      go_wp2_with fail
      go_ret
      exact ⟨rfl, Own.fin HM⟩
  · have e : b = false := by rw [← hb.out]; simp [Rg.right]; omega
    subst e
    have HM := Lib.hid (Own.start w)
    have tg1 : Hid True := trivial
    go_enter Tryz.func17, Tryz.ntmps17
    go_upto_region 1 with (first | ((with_reducible apply own_box HM); exact rfl; (conv => lhs; whnf); exact rfl; exact rfl; (first | (clear tg1 HM; intro w' g1 HM) | (clear tg2 HM; intro w' g2 HM) | (clear tg3 HM; intro w' g3 HM) | (clear tg4 HM; intro w' g4 HM) | (clear HM; intro w' g' HM)); all_goals skip))
    (refine own_inorder HM ?_; (try simp only [Act.put, List.setIfInBounds_toArray, List.set_cons_zero, List.set_cons_succ]); repeat ((fail_if_success (with_reducible refine wpQuiet_nil ?_)); first | go_big_quiet_skip | (go_big_quiet_want; first | ((with_reducible apply quiet_row); exact rfl; exact aggR; (with_reducible first | exact .z | exact .s .z | exact .s (.s .z) | exact .s (.s (.s .z)) | exact .s (.s (.s (.s .z)))); (first | exact Rg.cells_length _ | exact rfl); go_big_quiet_op; go_big_quiet_on) | ((with_reducible apply quiet_get); exact rfl; (first | (with_reducible exact oneU8) | (with_reducible exact oneU16) | (with_reducible exact oneBool)); (with_reducible first | exact .z | exact .s .z | exact .s (.s .z) | exact .s (.s (.s .z)) | exact .s (.s (.s (.s .z)))); exact rfl; go_big_quiet_op; go_big_quiet_on) | ((with_reducible apply quiet_load); exact rfl; (with_reducible exact aggAlt); (with_reducible first | exact .z | exact .s .z | exact .s (.s .z) | exact .s (.s (.s .z)) | exact .s (.s (.s (.s .z)))); exact Rg.altDrop _; exact Rg.altTake _; go_big_quiet_op; go_big_quiet_on) | (go_big_quiet_op; go_big_quiet_on) | (go_big_quiet_op; refine ⟨_, fun _ _ => rfl, ?_⟩; go_big_quiet_on))))
    refine wpQuiet_nil ?_
    intro w' HM'
    clear HM; have HM := HM'; clear HM'
    go_wp2_with fail
    go_ret
    exact ⟨rfl, Own.fin HM⟩
end Go.Proofs.YtljjgakfnajifaaGreatDoor
namespace Go.Proofs.YtljjgakfnajifaaGreatDoor
open Go.RowKit
def backProg (k : Nat) : List Nat :=
  if k = 0 then [197, 193]
  else if k = 1 then [229, 225]
  else if k = 2 then [245, 241]
  else if k = 3 then [217, 217]
  else if k = 4 then [8, 8]
  else if k = 5 then [235, 235]
  else if k = 6 then [227, 227]
  else if k = 7 then [60, 61]
  else if k = 8 then [3, 11]
  else [253, 229, 253, 225]
theorem lay_get (f a : Nat) (bs : List Nat) (ha : a + 4 < 65536) (hl : bs.length ≤ 4) (i : Nat) (hi : i < bs.length) : lay (bas f) a bs (a + i) = bs.getD i 0 := by
  rw [lay_at _ _ _ _ (by omega) (by omega) (by omega), show (a + i + 65536 - a) % 65536 = i by omega, if_pos hi]
theorem back_len (k : Nat) : (backProg k).length ≤ 4 ∧ 2 ≤ (backProg k).length ∧ ∀ y ∈ backProg k, y < 256 := by
  unfold backProg
  repeat' split
  all_goals (refine ⟨by decide, by decide, ?_⟩; decide)
theorem back_all (k : Nat) (hk : k < 10) (r : Rg) (f : Nat) (hf : r.Fits) (hpc : r.pc ≤ 200) (hsp : 300 ≤ r.sp) (hsp2 : r.sp ≤ 60000) (hh : r.ht = false) (hpx : r.px = 0) :
    (k ≠ 7 → asWas r (go r ⟨lay (bas f) r.pc (backProg k), []⟩ (backProg k).length).1 = r) ∧ (k = 7 → { asWas r (go r ⟨lay (bas f) r.pc (backProg k), []⟩ (backProg k).length).1 with f := r.f } = r) := by
  have G := fun (bs : List Nat) (hl : bs.length ≤ 4) (i : Nat) (hi : i < bs.length) => lay_get f r.pc bs (by omega) hl i hi
  rcases (show k = 0 ∨ k = 1 ∨ k = 2 ∨ k = 3 ∨ k = 4 ∨ k = 5 ∨ k = 6 ∨ k = 7 ∨ k = 8 ∨ k = 9 by omega) with rfl | rfl | rfl | rfl | rfl | rfl | rfl | rfl | rfl | rfl
  · rw [show backProg 0 = [197, 193] from rfl]
    have A := G [197, 193] (by decide)
    exact ⟨fun _ => back_push r _ hf 0 0 197 193 (by simp) rfl hpc hsp hsp2 hh hpx (A 0 (by decide)) (A 1 (by decide)) do_C5 do_C1, fun h => absurd h (by decide)⟩
  · rw [show backProg 1 = [229, 225] from rfl]
    have A := G [229, 225] (by decide)
    exact ⟨fun _ => back_push r _ hf 2 2 229 225 (by simp) rfl hpc hsp hsp2 hh hpx (A 0 (by decide)) (A 1 (by decide)) do_E5 do_E1, fun h => absurd h (by decide)⟩
  · rw [show backProg 2 = [245, 241] from rfl]
    have A := G [245, 241] (by decide)
    exact ⟨fun _ => back_push r _ hf 4 4 245 241 (by simp) rfl hpc hsp hsp2 hh hpx (A 0 (by decide)) (A 1 (by decide)) do_F5 do_F1, fun h => absurd h (by decide)⟩
  · rw [show backProg 3 = [217, 217] from rfl]
    have A := G [217, 217] (by decide)
    exact ⟨fun _ => back_swap r _ 217 true do_D9 hpc hh hpx (A 0 (by decide)) (A 1 (by decide)), fun h => absurd h (by decide)⟩
  · rw [show backProg 4 = [8, 8] from rfl]
    have A := G [8, 8] (by decide)
    exact ⟨fun _ => back_swap r _ 8 false do_08 hpc hh hpx (A 0 (by decide)) (A 1 (by decide)), fun h => absurd h (by decide)⟩
  · rw [show backProg 5 = [235, 235] from rfl]
    have A := G [235, 235] (by decide)
    exact ⟨fun _ => back_de r _ hpc hh hpx (A 0 (by decide)) (A 1 (by decide)), fun h => absurd h (by decide)⟩
  · rw [show backProg 6 = [227, 227] from rfl]
    have A := G [227, 227] (by decide)
    exact ⟨fun _ => back_top r _ hf hpc hsp hsp2 hh hpx (A 0 (by decide)) (A 1 (by decide)), fun h => absurd h (by decide)⟩
  · rw [show backProg 7 = [60, 61] from rfl]
    have A := G [60, 61] (by decide)
    exact ⟨fun h => absurd rfl h, fun _ => back_inc r _ hf hpc hh hpx (A 0 (by decide)) (A 1 (by decide))⟩
  · rw [show backProg 8 = [3, 11] from rfl]
    have A := G [3, 11] (by decide)
    exact ⟨fun _ => back_bc r _ hf hpc hh hpx (A 0 (by decide)) (A 1 (by decide)), fun h => absurd h (by decide)⟩
  · rw [show backProg 9 = [253, 229, 253, 225] from rfl]
    have A := G [253, 229, 253, 225] (by decide)
    exact ⟨fun _ => back_push_iy r _ hf hpc hsp hsp2 hh hpx (A 0 (by decide)) (A 1 (by decide)) (A 2 (by decide)) (A 3 (by decide)), fun h => absurd h (by decide)⟩
theorem made_two (a b : Int) (w : World) : (Instr.buildSlice 30 2 #[(0, .int .u8 a), (1, .int .u8 b)]).run Tryz.prog w = .ok (.slice (some ⟨w.heap.size, 0, none⟩) 2 2) (w.alloc (.cells ([.int .u8 a, .int .u8 b] : List Value).toArray 5)) := by kernel_rfl
theorem made_four (a b c d : Int) (w : World) : (Instr.buildSlice 30 4 #[(0, .int .u8 a), (1, .int .u8 b), (2, .int .u8 c), (3, .int .u8 d)]).run Tryz.prog w = .ok (.slice (some ⟨w.heap.size, 0, none⟩) 4 4) (w.alloc (.cells ([.int .u8 a, .int .u8 b, .int .u8 c, .int .u8 d] : List Value).toArray 5)) := by kernel_rfl
def tenCells (b0 b1 b2 b3 b4 b5 b6 b7 b8 b9 : Nat) : List Value := [.slice (some ⟨b0, 0, none⟩) 2 2, .slice (some ⟨b1, 0, none⟩) 2 2, .slice (some ⟨b2, 0, none⟩) 2 2, .slice (some ⟨b3, 0, none⟩) 2 2, .slice (some ⟨b4, 0, none⟩) 2 2, .slice (some ⟨b5, 0, none⟩) 2 2, .slice (some ⟨b6, 0, none⟩) 2 2, .slice (some ⟨b7, 0, none⟩) 2 2, .slice (some ⟨b8, 0, none⟩) 2 2, .slice (some ⟨b9, 0, none⟩) 4 4]
theorem made_ten (b0 b1 b2 b3 b4 b5 b6 b7 b8 b9 : Nat) (w : World) : (Instr.buildSlice 55 10 #[(0, .slice (some ⟨b0, 0, none⟩) 2 2), (1, .slice (some ⟨b1, 0, none⟩) 2 2), (2, .slice (some ⟨b2, 0, none⟩) 2 2), (3, .slice (some ⟨b3, 0, none⟩) 2 2), (4, .slice (some ⟨b4, 0, none⟩) 2 2), (5, .slice (some ⟨b5, 0, none⟩) 2 2), (6, .slice (some ⟨b6, 0, none⟩) 2 2), (7, .slice (some ⟨b7, 0, none⟩) 2 2), (8, .slice (some ⟨b8, 0, none⟩) 2 2), (9, .slice (some ⟨b9, 0, none⟩) 4 4)]).run Tryz.prog w = .ok (.slice (some ⟨w.heap.size, 0, none⟩) 10 10) (w.alloc (.cells (tenCells b0 b1 b2 b3 b4 b5 b6 b7 b8 b9).toArray 30)) := by kernel_rfl
def progCells (bs : List Nat) : List Value := bs.map fun y : Nat => .int .u8 (y : Int)
theorem pick_prog {W0 w : World} {l : Blocks} {gp b0 b1 b2 b3 b4 b5 b6 b7 b8 b9 : Nat} (k : Nat) (hk : k < 10)
    (h : Own W0 w ((gp, 30, tenCells b0 b1 b2 b3 b4 b5 b6 b7 b8 b9) :: (b9, 5, [.int .u8 253, .int .u8 229, .int .u8 253, .int .u8 225]) :: (b8, 5, [.int .u8 3, .int .u8 11]) :: (b7, 5, [.int .u8 60, .int .u8 61]) :: (b6, 5, [.int .u8 227, .int .u8 227]) :: (b5, 5, [.int .u8 235, .int .u8 235]) :: (b4, 5, [.int .u8 8, .int .u8 8]) :: (b3, 5, [.int .u8 217, .int .u8 217]) :: (b2, 5, [.int .u8 245, .int .u8 241]) :: (b1, 5, [.int .u8 229, .int .u8 225]) :: (b0, 5, [.int .u8 197, .int .u8 193]) :: l)) :
    ∃ gk, (tenCells b0 b1 b2 b3 b4 b5 b6 b7 b8 b9)[k]? = some (.slice (some ⟨gk, 0, none⟩) (backProg k).length (backProg k).length) ∧ Own W0 w ((gk, 5, progCells (backProg k)) :: (gp, 30, tenCells b0 b1 b2 b3 b4 b5 b6 b7 b8 b9) :: l) := by
  rcases (show k = 0 ∨ k = 1 ∨ k = 2 ∨ k = 3 ∨ k = 4 ∨ k = 5 ∨ k = 6 ∨ k = 7 ∨ k = 8 ∨ k = 9 by omega) with rfl | rfl | rfl | rfl | rfl | rfl | rfl | rfl | rfl | rfl
  · exact ⟨b0, rfl, (Own.perm (l := (gp, _, _) :: (b0, _, [.int .u8 197, .int .u8 193]) :: l) ⟨h.below, fun e he => h.whole e (((.cons_cons _ (.cons _ (.cons _ (.cons _ (.cons _ (.cons _ (.cons _ (.cons _ (.cons _ (.cons _ (.cons_cons _ (List.Sublist.refl l))))))))))) : List.Sublist ((gp, 30, tenCells b0 b1 b2 b3 b4 b5 b6 b7 b8 b9) :: (b0, 5, [.int .u8 197, .int .u8 193]) :: l) _)).subset he), h.apart.sublist (.cons_cons _ (.cons _ (.cons _ (.cons _ (.cons _ (.cons _ (.cons _ (.cons _ (.cons _ (.cons _ (.cons_cons _ (List.Sublist.refl l))))))))))))⟩ (List.Perm.swap _ _ _))⟩
  · exact ⟨b1, rfl, (Own.perm (l := (gp, _, _) :: (b1, _, [.int .u8 229, .int .u8 225]) :: l) ⟨h.below, fun e he => h.whole e (((.cons_cons _ (.cons _ (.cons _ (.cons _ (.cons _ (.cons _ (.cons _ (.cons _ (.cons _ (.cons_cons _ (.cons _ (List.Sublist.refl l))))))))))) : List.Sublist ((gp, 30, tenCells b0 b1 b2 b3 b4 b5 b6 b7 b8 b9) :: (b1, 5, [.int .u8 229, .int .u8 225]) :: l) _)).subset he), h.apart.sublist (.cons_cons _ (.cons _ (.cons _ (.cons _ (.cons _ (.cons _ (.cons _ (.cons _ (.cons _ (.cons_cons _ (.cons _ (List.Sublist.refl l))))))))))))⟩ (List.Perm.swap _ _ _))⟩
  · exact ⟨b2, rfl, (Own.perm (l := (gp, _, _) :: (b2, _, [.int .u8 245, .int .u8 241]) :: l) ⟨h.below, fun e he => h.whole e (((.cons_cons _ (.cons _ (.cons _ (.cons _ (.cons _ (.cons _ (.cons _ (.cons _ (.cons_cons _ (.cons _ (.cons _ (List.Sublist.refl l))))))))))) : List.Sublist ((gp, 30, tenCells b0 b1 b2 b3 b4 b5 b6 b7 b8 b9) :: (b2, 5, [.int .u8 245, .int .u8 241]) :: l) _)).subset he), h.apart.sublist (.cons_cons _ (.cons _ (.cons _ (.cons _ (.cons _ (.cons _ (.cons _ (.cons _ (.cons_cons _ (.cons _ (.cons _ (List.Sublist.refl l))))))))))))⟩ (List.Perm.swap _ _ _))⟩
  · exact ⟨b3, rfl, (Own.perm (l := (gp, _, _) :: (b3, _, [.int .u8 217, .int .u8 217]) :: l) ⟨h.below, fun e he => h.whole e (((.cons_cons _ (.cons _ (.cons _ (.cons _ (.cons _ (.cons _ (.cons _ (.cons_cons _ (.cons _ (.cons _ (.cons _ (List.Sublist.refl l))))))))))) : List.Sublist ((gp, 30, tenCells b0 b1 b2 b3 b4 b5 b6 b7 b8 b9) :: (b3, 5, [.int .u8 217, .int .u8 217]) :: l) _)).subset he), h.apart.sublist (.cons_cons _ (.cons _ (.cons _ (.cons _ (.cons _ (.cons _ (.cons _ (.cons_cons _ (.cons _ (.cons _ (.cons _ (List.Sublist.refl l))))))))))))⟩ (List.Perm.swap _ _ _))⟩
  · exact ⟨b4, rfl, (Own.perm (l := (gp, _, _) :: (b4, _, [.int .u8 8, .int .u8 8]) :: l) ⟨h.below, fun e he => h.whole e (((.cons_cons _ (.cons _ (.cons _ (.cons _ (.cons _ (.cons _ (.cons_cons _ (.cons _ (.cons _ (.cons _ (.cons _ (List.Sublist.refl l))))))))))) : List.Sublist ((gp, 30, tenCells b0 b1 b2 b3 b4 b5 b6 b7 b8 b9) :: (b4, 5, [.int .u8 8, .int .u8 8]) :: l) _)).subset he), h.apart.sublist (.cons_cons _ (.cons _ (.cons _ (.cons _ (.cons _ (.cons _ (.cons_cons _ (.cons _ (.cons _ (.cons _ (.cons _ (List.Sublist.refl l))))))))))))⟩ (List.Perm.swap _ _ _))⟩
  · exact ⟨b5, rfl, (Own.perm (l := (gp, _, _) :: (b5, _, [.int .u8 235, .int .u8 235]) :: l) ⟨h.below, fun e he => h.whole e (((.cons_cons _ (.cons _ (.cons _ (.cons _ (.cons _ (.cons_cons _ (.cons _ (.cons _ (.cons _ (.cons _ (.cons _ (List.Sublist.refl l))))))))))) : List.Sublist ((gp, 30, tenCells b0 b1 b2 b3 b4 b5 b6 b7 b8 b9) :: (b5, 5, [.int .u8 235, .int .u8 235]) :: l) _)).subset he), h.apart.sublist (.cons_cons _ (.cons _ (.cons _ (.cons _ (.cons _ (.cons_cons _ (.cons _ (.cons _ (.cons _ (.cons _ (.cons _ (List.Sublist.refl l))))))))))))⟩ (List.Perm.swap _ _ _))⟩
  · exact ⟨b6, rfl, (Own.perm (l := (gp, _, _) :: (b6, _, [.int .u8 227, .int .u8 227]) :: l) ⟨h.below, fun e he => h.whole e (((.cons_cons _ (.cons _ (.cons _ (.cons _ (.cons_cons _ (.cons _ (.cons _ (.cons _ (.cons _ (.cons _ (.cons _ (List.Sublist.refl l))))))))))) : List.Sublist ((gp, 30, tenCells b0 b1 b2 b3 b4 b5 b6 b7 b8 b9) :: (b6, 5, [.int .u8 227, .int .u8 227]) :: l) _)).subset he), h.apart.sublist (.cons_cons _ (.cons _ (.cons _ (.cons _ (.cons_cons _ (.cons _ (.cons _ (.cons _ (.cons _ (.cons _ (.cons _ (List.Sublist.refl l))))))))))))⟩ (List.Perm.swap _ _ _))⟩
  · exact ⟨b7, rfl, (Own.perm (l := (gp, _, _) :: (b7, _, [.int .u8 60, .int .u8 61]) :: l) ⟨h.below, fun e he => h.whole e (((.cons_cons _ (.cons _ (.cons _ (.cons_cons _ (.cons _ (.cons _ (.cons _ (.cons _ (.cons _ (.cons _ (.cons _ (List.Sublist.refl l))))))))))) : List.Sublist ((gp, 30, tenCells b0 b1 b2 b3 b4 b5 b6 b7 b8 b9) :: (b7, 5, [.int .u8 60, .int .u8 61]) :: l) _)).subset he), h.apart.sublist (.cons_cons _ (.cons _ (.cons _ (.cons_cons _ (.cons _ (.cons _ (.cons _ (.cons _ (.cons _ (.cons _ (.cons _ (List.Sublist.refl l))))))))))))⟩ (List.Perm.swap _ _ _))⟩
  · exact ⟨b8, rfl, (Own.perm (l := (gp, _, _) :: (b8, _, [.int .u8 3, .int .u8 11]) :: l) ⟨h.below, fun e he => h.whole e (((.cons_cons _ (.cons _ (.cons_cons _ (.cons _ (.cons _ (.cons _ (.cons _ (.cons _ (.cons _ (.cons _ (.cons _ (List.Sublist.refl l))))))))))) : List.Sublist ((gp, 30, tenCells b0 b1 b2 b3 b4 b5 b6 b7 b8 b9) :: (b8, 5, [.int .u8 3, .int .u8 11]) :: l) _)).subset he), h.apart.sublist (.cons_cons _ (.cons _ (.cons_cons _ (.cons _ (.cons _ (.cons _ (.cons _ (.cons _ (.cons _ (.cons _ (.cons _ (List.Sublist.refl l))))))))))))⟩ (List.Perm.swap _ _ _))⟩
  · exact ⟨b9, rfl, (Own.perm (l := (gp, _, _) :: (b9, _, [.int .u8 253, .int .u8 229, .int .u8 253, .int .u8 225]) :: l) ⟨h.below, fun e he => h.whole e (((.cons_cons _ (.cons_cons _ (.cons _ (.cons _ (.cons _ (.cons _ (.cons _ (.cons _ (.cons _ (.cons _ (.cons _ (List.Sublist.refl l))))))))))) : List.Sublist ((gp, 30, tenCells b0 b1 b2 b3 b4 b5 b6 b7 b8 b9) :: (b9, 5, [.int .u8 253, .int .u8 229, .int .u8 253, .int .u8 225]) :: l) _)).subset he), h.apart.sublist (.cons_cons _ (.cons_cons _ (.cons _ (.cons _ (.cons _ (.cons _ (.cons _ (.cons _ (.cons _ (.cons _ (.cons _ (List.Sublist.refl l))))))))))))⟩ (List.Perm.swap _ _ _))⟩
theorem box_back {W0 w : World} {l : Blocks} {g : Nat} (pc k : Nat) (hpc : pc < 65536) (h : Hid (Own W0 w ((g, 5, progCells (backProg k)) :: l))) :
    Calls Tryz.prog 14 #[.int .u16 (pc : Int), .slice (some ⟨g, 0, none⟩) (backProg k).length (backProg k).length, .int .u8 3] w fun e w' => ∃ b, e = .returned (.pointer (some ⟨b, 0, none⟩)) ∧ Hid (Bx W0 w' b ⟨lay (bas 3) pc (backProg k), []⟩ ((g, 5, progCells (backProg k)) :: l) 1000000) :=
  box_at pc 3 _ (backProg k) _ hpc (by have := (back_len k).1; omega) (Lib.hid (reads_own (backProg k) (back_len k).2.2)) h
theorem go_next (r : Rg) (u : U) (k : Nat) : (go r u (k + 1)).1 = stepR (go r u k).1 (go r u k).2 ∧ (go r u (k + 1)).2 = stepU (go r u k).1 (go r u k).2 := ⟨rfl, rfl⟩
def Rg.bPC (r : Rg) (v : Nat) : Rg := { r with pc := v }
def Rg.bR (r : Rg) (v : Nat) : Rg := { r with r := v }
def Rg.bWZ (r : Rg) (v : Nat) : Rg := { r with wz := v }
def Rg.bDL (r : Rg) (v : Bool) : Rg := { r with dl := v }
def Rg.bF (r : Rg) (v : Nat) : Rg := { r with f := v }
theorem bs_pc {r : Rg} {v : Nat} : r.cells.set 19 (.int .u16 (v : Int)) = (r.bPC v).cells := rfl
theorem bs_r {r : Rg} {v : Nat} : r.cells.set 22 (.int .u8 (v : Int)) = (r.bR v).cells := rfl
theorem bs_wz {r : Rg} {v : Nat} : r.cells.set 20 (.int .u16 (v : Int)) = (r.bWZ v).cells := rfl
theorem bs_dl {r : Rg} {v : Bool} : r.cells.set 28 (.bool v) = (r.bDL v).cells := rfl
theorem bs_f {r : Rg} {v : Nat} : r.cells.set 1 (.int .u8 (v : Int)) = (r.bF v).cells := rfl
end Go.Proofs.YtljjgakfnajifaaGreatDoor
namespace Go.Proofs.YtljjgakfnajifaaGreatDoor
open Go.RowKit
set_option maxRecDepth 100000 in
set_option maxHeartbeats 1600000 in
theorem back_any (r : Rg) (hr : r.Fits) (n : Int) (w : World) (hT : Tabs w) : Calls Tryz.prog 8 #[r.v, .int .i64 n] w fun e w' => e = .returned (.bool true) ∧ Below w.heap.size w w' := by
  have HT := Lib.hid hT
  have HR := Lib.hid hr
  have hsp2 := hr.sp
  have hpc2 := hr.pc
  obtain ⟨R, HRB⟩ : ∃ R, Hid (r.right = R) := ⟨_, rfl⟩
  clear hT
  cases R
  · skip
    have HM := Lib.hid (Own.start w)
    have tg1 : Hid True := trivial
    go_enter Tryz.func8, Tryz.ntmps8
    go_wp2_with (first
      | ((with_reducible apply own_box HM); exact rfl; (conv => lhs; whnf); exact rfl; exact rfl; (first | (clear tg1 HM; intro w' g1 HM) | (clear tg2 HM; intro w' g2 HM) | (clear tg3 HM; intro w' g3 HM) | (clear tg4 HM; intro w' g4 HM) | (clear HM; intro w' g' HM)); all_goals skip) | ((with_reducible apply own_row HM); exact rfl; exact rfl; exact aggR; (with_reducible first | exact .z | exact .s .z | exact .s (.s .z) | exact .s (.s (.s .z)) | exact .s (.s (.s (.s .z)))); exact rfl; (first | exact Rg.cells_length _ | exact rfl); all_goals skip) | ((with_reducible apply own_get HM); exact rfl; exact rfl; (with_reducible first | exact oneU8 | exact oneU16 | exact oneBool | exact oneInt); (with_reducible first | exact .z | exact .s .z | exact .s (.s .z) | exact .s (.s (.s .z)) | exact .s (.s (.s (.s .z)))); (conv => lhs; whnf); exact rfl; all_goals skip)
      | (go_at_call 16; (with_reducible refine (cpuAlive_any _ (Tabs.own HT HM)).mono ?_); rintro e w' ⟨rfl, hb⟩; replace HM := Lib.hid (HM.out.call hb); clear hb)
      | (go_at_call 17; (with_reducible refine (rrightRegs r _ HRB _).mono ?_); rintro e w' ⟨rfl, hb⟩; replace HM := Lib.hid (HM.out.call hb); clear hb))
    go_ret
    exact ⟨rfl, Own.fin HM⟩
  by_cases c3 : r.px = 0
  case neg =>
    have c3i : ((r.px : Int) != 0) = true := by simp; omega
    have HM := Lib.hid (Own.start w)
    have tg1 : Hid True := trivial
    go_enter Tryz.func8, Tryz.ntmps8
    go_wp2_with (first
      | ((with_reducible apply own_box HM); exact rfl; (conv => lhs; whnf); exact rfl; exact rfl; (first | (clear tg1 HM; intro w' g1 HM) | (clear tg2 HM; intro w' g2 HM) | (clear tg3 HM; intro w' g3 HM) | (clear tg4 HM; intro w' g4 HM) | (clear HM; intro w' g' HM)); all_goals skip) | ((with_reducible apply own_row HM); exact rfl; exact rfl; exact aggR; (with_reducible first | exact .z | exact .s .z | exact .s (.s .z) | exact .s (.s (.s .z)) | exact .s (.s (.s (.s .z)))); exact rfl; (first | exact Rg.cells_length _ | exact rfl); all_goals skip) | ((with_reducible apply own_get HM); exact rfl; exact rfl; (with_reducible first | exact oneU8 | exact oneU16 | exact oneBool | exact oneInt); (with_reducible first | exact .z | exact .s .z | exact .s (.s .z) | exact .s (.s (.s .z)) | exact .s (.s (.s (.s .z)))); (conv => lhs; whnf); exact rfl; all_goals skip)
      | (go_at_call 16; (with_reducible refine (cpuAlive_any _ (Tabs.own HT HM)).mono ?_); rintro e w' ⟨rfl, hb⟩; replace HM := Lib.hid (HM.out.call hb); clear hb)
      | (go_at_call 17; (with_reducible refine (rrightRegs r _ HRB _).mono ?_); rintro e w' ⟨rfl, hb⟩; replace HM := Lib.hid (HM.out.call hb); clear hb))
    go_ret
    exact ⟨rfl, Own.fin HM⟩
  have c3i : ((r.px : Int) != 0) = false := by simp; omega
  cases hh : r.ht
  case true =>
    skip
    have HM := Lib.hid (Own.start w)
    have tg1 : Hid True := trivial
    go_enter Tryz.func8, Tryz.ntmps8
    go_wp2_with (first
      | (exact absurd (hh.symm.trans (by with_reducible assumption : r.ht = false)) Bool.noConfusion) | ((with_reducible apply own_box HM); exact rfl; (conv => lhs; whnf); exact rfl; exact rfl; (first | (clear tg1 HM; intro w' g1 HM) | (clear tg2 HM; intro w' g2 HM) | (clear tg3 HM; intro w' g3 HM) | (clear tg4 HM; intro w' g4 HM) | (clear HM; intro w' g' HM)); all_goals skip) | ((with_reducible apply own_row HM); exact rfl; exact rfl; exact aggR; (with_reducible first | exact .z | exact .s .z | exact .s (.s .z) | exact .s (.s (.s .z)) | exact .s (.s (.s (.s .z)))); exact rfl; (first | exact Rg.cells_length _ | exact rfl); all_goals skip) | ((with_reducible apply own_get HM); exact rfl; exact rfl; (with_reducible first | exact oneU8 | exact oneU16 | exact oneBool | exact oneInt); (with_reducible first | exact .z | exact .s .z | exact .s (.s .z) | exact .s (.s (.s .z)) | exact .s (.s (.s (.s .z)))); (conv => lhs; whnf); exact rfl; all_goals skip)
      | (go_at_call 16; (with_reducible refine (cpuAlive_any _ (Tabs.own HT HM)).mono ?_); rintro e w' ⟨rfl, hb⟩; replace HM := Lib.hid (HM.out.call hb); clear hb)
      | (go_at_call 17; (with_reducible refine (rrightRegs r _ HRB _).mono ?_); rintro e w' ⟨rfl, hb⟩; replace HM := Lib.hid (HM.out.call hb); clear hb))
    go_ret
    exact ⟨rfl, Own.fin HM⟩
  by_cases c4 : r.sp < 300
  case pos =>
    have c4i : decide ((r.sp : Int) < 300) = true := decide_eq_true (by omega)
    have HM := Lib.hid (Own.start w)
    have tg1 : Hid True := trivial
    go_enter Tryz.func8, Tryz.ntmps8
    go_wp2_with (first
      | (exact absurd (hh.symm.trans (by with_reducible assumption : r.ht = true)) Bool.noConfusion) | ((with_reducible apply own_box HM); exact rfl; (conv => lhs; whnf); exact rfl; exact rfl; (first | (clear tg1 HM; intro w' g1 HM) | (clear tg2 HM; intro w' g2 HM) | (clear tg3 HM; intro w' g3 HM) | (clear tg4 HM; intro w' g4 HM) | (clear HM; intro w' g' HM)); all_goals skip) | ((with_reducible apply own_row HM); exact rfl; exact rfl; exact aggR; (with_reducible first | exact .z | exact .s .z | exact .s (.s .z) | exact .s (.s (.s .z)) | exact .s (.s (.s (.s .z)))); exact rfl; (first | exact Rg.cells_length _ | exact rfl); all_goals skip) | ((with_reducible apply own_get HM); exact rfl; exact rfl; (with_reducible first | exact oneU8 | exact oneU16 | exact oneBool | exact oneInt); (with_reducible first | exact .z | exact .s .z | exact .s (.s .z) | exact .s (.s (.s .z)) | exact .s (.s (.s (.s .z)))); (conv => lhs; whnf); exact rfl; all_goals skip)
      | (go_at_call 16; (with_reducible refine (cpuAlive_any _ (Tabs.own HT HM)).mono ?_); rintro e w' ⟨rfl, hb⟩; replace HM := Lib.hid (HM.out.call hb); clear hb)
      | (go_at_call 17; (with_reducible refine (rrightRegs r _ HRB _).mono ?_); rintro e w' ⟨rfl, hb⟩; replace HM := Lib.hid (HM.out.call hb); clear hb))
    go_ret
    exact ⟨rfl, Own.fin HM⟩
  have c4i : decide ((r.sp : Int) < 300) = false := decide_eq_false (by omega)
  by_cases c5 : 60000 < r.sp
  case pos =>
    have c5i : decide ((60000 : Int) < (r.sp : Int)) = true := decide_eq_true (by omega)
    have HM := Lib.hid (Own.start w)
    have tg1 : Hid True := trivial
    go_enter Tryz.func8, Tryz.ntmps8
    go_wp2_with (first
      | (exact absurd (hh.symm.trans (by with_reducible assumption : r.ht = true)) Bool.noConfusion) | ((with_reducible apply own_box HM); exact rfl; (conv => lhs; whnf); exact rfl; exact rfl; (first | (clear tg1 HM; intro w' g1 HM) | (clear tg2 HM; intro w' g2 HM) | (clear tg3 HM; intro w' g3 HM) | (clear tg4 HM; intro w' g4 HM) | (clear HM; intro w' g' HM)); all_goals skip) | ((with_reducible apply own_row HM); exact rfl; exact rfl; exact aggR; (with_reducible first | exact .z | exact .s .z | exact .s (.s .z) | exact .s (.s (.s .z)) | exact .s (.s (.s (.s .z)))); exact rfl; (first | exact Rg.cells_length _ | exact rfl); all_goals skip) | ((with_reducible apply own_get HM); exact rfl; exact rfl; (with_reducible first | exact oneU8 | exact oneU16 | exact oneBool | exact oneInt); (with_reducible first | exact .z | exact .s .z | exact .s (.s .z) | exact .s (.s (.s .z)) | exact .s (.s (.s (.s .z)))); (conv => lhs; whnf); exact rfl; all_goals skip)
      | (go_at_call 16; (with_reducible refine (cpuAlive_any _ (Tabs.own HT HM)).mono ?_); rintro e w' ⟨rfl, hb⟩; replace HM := Lib.hid (HM.out.call hb); clear hb)
      | (go_at_call 17; (with_reducible refine (rrightRegs r _ HRB _).mono ?_); rintro e w' ⟨rfl, hb⟩; replace HM := Lib.hid (HM.out.call hb); clear hb))
    go_ret
    exact ⟨rfl, Own.fin HM⟩
  have c5i : decide ((60000 : Int) < (r.sp : Int)) = false := decide_eq_false (by omega)
  by_cases c6 : 200 < r.pc
  case pos =>
    have c6i : decide ((200 : Int) < (r.pc : Int)) = true := decide_eq_true (by omega)
    have HM := Lib.hid (Own.start w)
    have tg1 : Hid True := trivial
    go_enter Tryz.func8, Tryz.ntmps8
    go_wp2_with (first
      | (exact absurd (hh.symm.trans (by with_reducible assumption : r.ht = true)) Bool.noConfusion) | ((with_reducible apply own_box HM); exact rfl; (conv => lhs; whnf); exact rfl; exact rfl; (first | (clear tg1 HM; intro w' g1 HM) | (clear tg2 HM; intro w' g2 HM) | (clear tg3 HM; intro w' g3 HM) | (clear tg4 HM; intro w' g4 HM) | (clear HM; intro w' g' HM)); all_goals skip) | ((with_reducible apply own_row HM); exact rfl; exact rfl; exact aggR; (with_reducible first | exact .z | exact .s .z | exact .s (.s .z) | exact .s (.s (.s .z)) | exact .s (.s (.s (.s .z)))); exact rfl; (first | exact Rg.cells_length _ | exact rfl); all_goals skip) | ((with_reducible apply own_get HM); exact rfl; exact rfl; (with_reducible first | exact oneU8 | exact oneU16 | exact oneBool | exact oneInt); (with_reducible first | exact .z | exact .s .z | exact .s (.s .z) | exact .s (.s (.s .z)) | exact .s (.s (.s (.s .z)))); (conv => lhs; whnf); exact rfl; all_goals skip)
      | (go_at_call 16; (with_reducible refine (cpuAlive_any _ (Tabs.own HT HM)).mono ?_); rintro e w' ⟨rfl, hb⟩; replace HM := Lib.hid (HM.out.call hb); clear hb)
      | (go_at_call 17; (with_reducible refine (rrightRegs r _ HRB _).mono ?_); rintro e w' ⟨rfl, hb⟩; replace HM := Lib.hid (HM.out.call hb); clear hb))
    go_ret
    exact ⟨rfl, Own.fin HM⟩
  have c6i : decide ((200 : Int) < (r.pc : Int)) = false := decide_eq_false (by omega)
  have HM := Lib.hid (Own.start w)
  have tg1 : Hid True := trivial
  have tb0 : Hid True := trivial
  have tb1 : Hid True := trivial
  have tb2 : Hid True := trivial
  have tb3 : Hid True := trivial
  have tb4 : Hid True := trivial
  have tb5 : Hid True := trivial
  have tb6 : Hid True := trivial
  have tb7 : Hid True := trivial
  have tb8 : Hid True := trivial
  have tb9 : Hid True := trivial
  go_enter Tryz.func8, Tryz.ntmps8
  go_upto_region 6 with (first
    | (exact absurd (hh.symm.trans (by with_reducible assumption : r.ht = true)) Bool.noConfusion) | ((with_reducible apply own_box HM); exact rfl; (conv => lhs; whnf); exact rfl; exact rfl; (first | (clear tg1 HM; intro w' g1 HM) | (clear tg2 HM; intro w' g2 HM) | (clear tg3 HM; intro w' g3 HM) | (clear tg4 HM; intro w' g4 HM) | (clear HM; intro w' g' HM)); all_goals skip) | ((with_reducible apply own_row HM); exact rfl; exact rfl; exact aggR; (with_reducible first | exact .z | exact .s .z | exact .s (.s .z) | exact .s (.s (.s .z)) | exact .s (.s (.s (.s .z)))); exact rfl; (first | exact Rg.cells_length _ | exact rfl); all_goals skip) | ((with_reducible apply own_get HM); exact rfl; exact rfl; (with_reducible first | exact oneU8 | exact oneU16 | exact oneBool | exact oneInt); (with_reducible first | exact .z | exact .s .z | exact .s (.s .z) | exact .s (.s (.s .z)) | exact .s (.s (.s (.s .z)))); (conv => lhs; whnf); exact rfl; all_goals skip)
    | (go_at_call 16; (with_reducible refine (cpuAlive_any _ (Tabs.own HT HM)).mono ?_); rintro e w' ⟨rfl, hb⟩; replace HM := Lib.hid (HM.out.call hb); clear hb)
    | (go_at_call 17; (with_reducible refine (rrightRegs r _ HRB _).mono ?_); rintro e w' ⟨rfl, hb⟩; replace HM := Lib.hid (HM.out.call hb); clear hb)
    | ((with_reducible apply own_made (cs := [.int .u8 197, .int .u8 193]) (e := 5) (n := 2) HM); exact rfl; exact made_two 197 193; (focus (go_simp; done)); exact rfl; clear tb0; intro w' b0 HM'; clear HM; have HM := HM'; clear HM'; all_goals skip)
    | ((with_reducible apply own_made (cs := [.int .u8 229, .int .u8 225]) (e := 5) (n := 2) HM); exact rfl; exact made_two 229 225; (focus (go_simp; done)); exact rfl; clear tb1; intro w' b1 HM'; clear HM; have HM := HM'; clear HM'; all_goals skip)
    | ((with_reducible apply own_made (cs := [.int .u8 245, .int .u8 241]) (e := 5) (n := 2) HM); exact rfl; exact made_two 245 241; (focus (go_simp; done)); exact rfl; clear tb2; intro w' b2 HM'; clear HM; have HM := HM'; clear HM'; all_goals skip)
    | ((with_reducible apply own_made (cs := [.int .u8 217, .int .u8 217]) (e := 5) (n := 2) HM); exact rfl; exact made_two 217 217; (focus (go_simp; done)); exact rfl; clear tb3; intro w' b3 HM'; clear HM; have HM := HM'; clear HM'; all_goals skip)
    | ((with_reducible apply own_made (cs := [.int .u8 8, .int .u8 8]) (e := 5) (n := 2) HM); exact rfl; exact made_two 8 8; (focus (go_simp; done)); exact rfl; clear tb4; intro w' b4 HM'; clear HM; have HM := HM'; clear HM'; all_goals skip)
    | ((with_reducible apply own_made (cs := [.int .u8 235, .int .u8 235]) (e := 5) (n := 2) HM); exact rfl; exact made_two 235 235; (focus (go_simp; done)); exact rfl; clear tb5; intro w' b5 HM'; clear HM; have HM := HM'; clear HM'; all_goals skip)
    | ((with_reducible apply own_made (cs := [.int .u8 227, .int .u8 227]) (e := 5) (n := 2) HM); exact rfl; exact made_two 227 227; (focus (go_simp; done)); exact rfl; clear tb6; intro w' b6 HM'; clear HM; have HM := HM'; clear HM'; all_goals skip)
    | ((with_reducible apply own_made (cs := [.int .u8 60, .int .u8 61]) (e := 5) (n := 2) HM); exact rfl; exact made_two 60 61; (focus (go_simp; done)); exact rfl; clear tb7; intro w' b7 HM'; clear HM; have HM := HM'; clear HM'; all_goals skip)
    | ((with_reducible apply own_made (cs := [.int .u8 3, .int .u8 11]) (e := 5) (n := 2) HM); exact rfl; exact made_two 3 11; (focus (go_simp; done)); exact rfl; clear tb8; intro w' b8 HM'; clear HM; have HM := HM'; clear HM'; all_goals skip)
    | ((with_reducible apply own_made (cs := [.int .u8 253, .int .u8 229, .int .u8 253, .int .u8 225]) (e := 5) (n := 4) HM); exact rfl; exact made_four 253 229 253 225; (focus (go_simp; done)); exact rfl; clear tb9; intro w' b9 HM'; clear HM; have HM := HM'; clear HM'; all_goals skip)
    | ((with_reducible apply own_made (cs := tenCells b0 b1 b2 b3 b4 b5 b6 b7 b8 b9) (e := 30) (n := 10) HM); exact rfl; exact made_ten b0 b1 b2 b3 b4 b5 b6 b7 b8 b9; (focus (go_simp; done)); exact rfl; intro w' gp HM'; clear HM; have HM := HM'; clear HM'; all_goals skip))
  obtain ⟨z, hz⟩ : ∃ z, Int.tmod n 10 = z := ⟨_, rfl⟩
  have z1 : -10 < z ∧ z < 10 := by rw [← hz]; have h1 := Int.tmod_lt_of_pos n (b := 10) (by decide); have h2 := Int.lt_tmod_of_pos n (b := 10) (by decide); omega
  obtain ⟨k, hk⟩ : ∃ k : Nat, (k : Int) = if z < 0 then z + 10 else z := ⟨(if z < 0 then z + 10 else z).toNat, by split <;> omega⟩
  have k1 : k < 10 := by split at hk <;> omega
  have HK := Lib.hid hk
  have HZ1 := Lib.hid z1
  clear hk z1 c3i c4i c5i c6i
  go_cut [6] from 49 to 52 (fun s6 wx => s6 = .int .i64 z ∧ Hid (Own w wx ((gp, 30, tenCells b0 b1 b2 b3 b4 b5 b6 b7 b8 b9) :: (b9, 5, [.int .u8 253, .int .u8 229, .int .u8 253, .int .u8 225]) :: (b8, 5, [.int .u8 3, .int .u8 11]) :: (b7, 5, [.int .u8 60, .int .u8 61]) :: (b6, 5, [.int .u8 227, .int .u8 227]) :: (b5, 5, [.int .u8 235, .int .u8 235]) :: (b4, 5, [.int .u8 8, .int .u8 8]) :: (b3, 5, [.int .u8 217, .int .u8 217]) :: (b2, 5, [.int .u8 245, .int .u8 241]) :: (b1, 5, [.int .u8 229, .int .u8 225]) :: (b0, 5, [.int .u8 197, .int .u8 193]) :: [(g1, 25, r.cells)])))
  case' first =>
    go_wp2_with fail
    go_meet
    exact ⟨rfl, HM⟩
  case' rest =>
  clear HM hz
  obtain ⟨rfl, HM⟩ := hcut
  apply_assumption
  go_upto_region 7 with fail
  obtain ⟨neg, hneg⟩ : ∃ q, decide (z < 0) = q := ⟨_, rfl⟩
  go_cut [54] from 53 to 54 (fun s54 wx => s54 = .bool neg ∧ Hid (Own w wx ((gp, 30, tenCells b0 b1 b2 b3 b4 b5 b6 b7 b8 b9) :: (b9, 5, [.int .u8 253, .int .u8 229, .int .u8 253, .int .u8 225]) :: (b8, 5, [.int .u8 3, .int .u8 11]) :: (b7, 5, [.int .u8 60, .int .u8 61]) :: (b6, 5, [.int .u8 227, .int .u8 227]) :: (b5, 5, [.int .u8 235, .int .u8 235]) :: (b4, 5, [.int .u8 8, .int .u8 8]) :: (b3, 5, [.int .u8 217, .int .u8 217]) :: (b2, 5, [.int .u8 245, .int .u8 241]) :: (b1, 5, [.int .u8 229, .int .u8 225]) :: (b0, 5, [.int .u8 197, .int .u8 193]) :: [(g1, 25, r.cells)])))
  case' first =>
    go_wp2_with fail
    go_meet
    exact ⟨rfl, HM⟩
  case' rest =>
  clear HM
  obtain ⟨rfl, HM⟩ := hcut
  apply_assumption
  go_cut [6] from 55 to 58 (fun s6 wx => s6 = .int .i64 (k : Int) ∧ Hid (Own w wx ((gp, 30, tenCells b0 b1 b2 b3 b4 b5 b6 b7 b8 b9) :: (b9, 5, [.int .u8 253, .int .u8 229, .int .u8 253, .int .u8 225]) :: (b8, 5, [.int .u8 3, .int .u8 11]) :: (b7, 5, [.int .u8 60, .int .u8 61]) :: (b6, 5, [.int .u8 227, .int .u8 227]) :: (b5, 5, [.int .u8 235, .int .u8 235]) :: (b4, 5, [.int .u8 8, .int .u8 8]) :: (b3, 5, [.int .u8 217, .int .u8 217]) :: (b2, 5, [.int .u8 245, .int .u8 241]) :: (b1, 5, [.int .u8 229, .int .u8 225]) :: (b0, 5, [.int .u8 197, .int .u8 193]) :: [(g1, 25, r.cells)])))
  case' first =>
    by_cases hz0 : z < 0
    · have e1 : z + 10 = (k : Int) := by rw [HK.out, if_pos hz0]
      obtain rfl : neg = true := by rw [← hneg]; exact decide_eq_true hz0
      clear hneg
      have h1 := HZ1.out
      go_wp2_with fail
      go_meet
      exact ⟨rfl, HM⟩
    · have e1 : z = (k : Int) := by rw [HK.out, if_neg hz0]
      obtain rfl : neg = false := by rw [← hneg]; exact decide_eq_false hz0
      clear hneg
      subst e1
      go_wp2_with fail
      go_meet
      exact ⟨rfl, HM⟩
  case' rest =>
  clear HM
  obtain ⟨rfl, HM⟩ := hcut
  obtain ⟨gk, hcell, HO⟩ := pick_prog k k1 HM.out
  obtain ⟨nk, hnk⟩ : ∃ nk, (backProg k).length = nk := ⟨_, rfl⟩
  rw [hnk] at hcell
  have HV := Lib.hid hcell
  have hnk4 : nk ≤ 4 := by rw [← hnk]; exact (back_len k).1
  clear HM hcell
  have HM := Lib.hid HO
  clear HO
  have ki : (k : Int) < 10 := by omega
  have hAll := back_all k k1 r 3 hr (by omega) (by omega) (by omega) hh c3
  obtain ⟨u, hu⟩ : ∃ u : U, u = ⟨lay (bas 3) r.pc (backProg k), []⟩ := ⟨_, rfl⟩
  rw [← hu, hnk] at hAll
  have HAll := Lib.hid hAll
  have BX : Hid (∀ (W0 w : World) (l : Blocks), Hid (Own W0 w ((gk, 5, progCells (backProg k)) :: l)) → Calls Tryz.prog 14 #[.int .u16 (r.pc : Int), .slice (some ⟨gk, 0, none⟩) nk nk, .int .u8 3] w fun e w' => ∃ b, e = .returned (.pointer (some ⟨b, 0, none⟩)) ∧ Hid (Bx W0 w' b u ((gk, 5, progCells (backProg k)) :: l) 1000000)) := fun W0 w l h => by
    have := box_back r.pc k hpc2 h
    rw [hnk, ← hu] at this
    exact this
  clear hAll hu hnk HK HZ1
  apply_assumption
  have tg1 : Hid True := trivial
  have tg3 : Hid True := trivial
  go_upto_region 9 with fail
  (refine own_tail 6 HM (by kernel_rfl) (by kernel_rfl) (by kernel_rfl) ?_; simp only [List.take_succ_cons, List.take_zero, List.drop_succ_cons, List.drop_zero]; (try simp only [Act.put, List.setIfInBounds_toArray, List.set_cons_zero, List.set_cons_succ]); repeat ((fail_if_success (with_reducible refine wpQuiet_nil ?_)); first | go_big_quiet_skip | (go_big_quiet_want; first | ((with_reducible apply quiet_row); exact rfl; exact aggR; (with_reducible first | exact .z | exact .s .z | exact .s (.s .z) | exact .s (.s (.s .z)) | exact .s (.s (.s (.s .z)))); (first | exact Rg.cells_length _ | exact rfl); go_big_quiet_op; go_big_quiet_on) | ((with_reducible apply quiet_get); exact rfl; (first | (with_reducible exact oneU8) | (with_reducible exact oneU16) | (with_reducible exact oneBool)); (with_reducible first | exact .z | exact .s .z | exact .s (.s .z) | exact .s (.s (.s .z)) | exact .s (.s (.s (.s .z)))); exact rfl; go_big_quiet_op; go_big_quiet_on) | ((with_reducible apply quiet_load); exact rfl; (with_reducible exact aggAlt); (with_reducible first | exact .z | exact .s .z | exact .s (.s .z) | exact .s (.s (.s .z)) | exact .s (.s (.s (.s .z)))); exact Rg.altDrop _; exact Rg.altTake _; go_big_quiet_op; go_big_quiet_on) | ((with_reducible apply quiet_get); exact rfl; (with_reducible exact oneU8s); (with_reducible first | exact .z | exact .s .z | exact .s (.s .z) | exact .s (.s (.s .z)) | exact .s (.s (.s (.s .z)))); exact HV.out; go_big_quiet_op; go_big_quiet_on) | (go_big_quiet_op; go_big_quiet_on) | (go_big_quiet_op; refine ⟨_, fun _ _ => rfl, ?_⟩; go_big_quiet_on))))
  refine wpQuiet_nil ?_
  intro w' HM'
  clear HM; have HM := HM'; clear HM'
  go_upto_region 10 with (go_at_call 14; (with_reducible refine (BX.out _ _ _ HM).mono ?_); rintro e w' ⟨b, rfl, hB⟩; clear HM; obtain ⟨HG, X, HX, HM⟩ := (Bx.drop hB.out).hid2; clear hB)
  go_upto_region 12 with (first
    | ((with_reducible apply own_row HM); exact rfl; exact rfl; exact aggR; (with_reducible first | exact .z | exact .s .z | exact .s (.s .z) | exact .s (.s (.s .z)) | exact .s (.s (.s (.s .z)))); exact rfl; (first | exact Rg.cells_length _ | exact rfl); all_goals skip)
    | ((with_reducible apply own_alloc HM); exact rfl; (with_reducible exact zeroR); exact rfl; clear tg3; intro w' g3 HM'; clear HM; have HM := HM'; clear HM'; all_goals skip)
    | ((with_reducible apply own_lay HM); exact rfl; exact rfl; exact rfl; (with_reducible first | exact .z | exact .s .z | exact .s (.s .z) | exact .s (.s (.s .z)) | exact .s (.s (.s (.s .z)))); (with_reducible first | exact .z | exact .s .z | exact .s (.s .z) | exact .s (.s (.s .z)) | exact .s (.s (.s (.s .z)))); exact aggR.size; (first | exact Rg.cells_length _ | exact rfl); (first | exact Rg.cells_length _ | exact rfl); (first | exact Rg.one1 _ | exact rfl); exact rfl; exact rfl; clear HM; intro w' HM; all_goals skip)
    | ((with_reducible apply own_get HM); exact rfl; exact rfl; (with_reducible exact oneU8s); (with_reducible exact .s .z); exact HV.out; exact rfl; all_goals skip))
  go_loopw [72] (fun at_ wr => ∃ (i : Nat) (r1 : Rg) (u1 : U) (X : Blocks), i ≤ nk ∧ at_ = .int .i64 (i : Int) ∧ Hid r1.Fits ∧ Hid (go r u i = (r1, u1)) ∧ Hid (u1.Good (999999 - 6 * i)) ∧ Hid (IsBox X b u1) ∧ Hid (Own w wr ((g3, 25, r1.cells) :: (gp, 30, tenCells b0 b1 b2 b3 b4 b5 b6 b7 b8 b9) :: (g1, 25, r.cells) :: X))) (fun at_ _ => nk - (intOf at_).toNat)
  case atStart => exact ⟨0, r, u, X, by omega, rfl, HR, rfl, Lib.hid (HG.out.less (by omega)), HX, HM⟩
  case round =>
    clear HM HG HX
    obtain ⟨i, r1, u1, X, hi, rfl, HR1, HC, HG, HX, HM⟩ := hrel
    by_cases hlt : i < nk
    · have hlt2 : (i : Int) < (nk : Int) := by omega
      have i4 : (i : Int) < 4 := by omega
      obtain ⟨r', hr'⟩ : ∃ x, Hid (stepR r1 u1 = x) := ⟨_, rfl⟩
      obtain ⟨k', hk'⟩ : ∃ x, Hid (stepN r1 u1 = x) := ⟨_, rfl⟩
      obtain ⟨u', hu'⟩ : ∃ x, Hid (stepU r1 u1 = x) := ⟨_, rfl⟩
      have HC' : Hid (go r u (i + 1) = (r', u')) := by
        show (stepR (go r u i).1 (go r u i).2, stepU (go r u i).1 (go r u i).2) = _
        rw [HC.out]
        exact Prod.ext hr'.out hu'.out
      have HG2 : Hid (u1.Good (999999 - 6 * (i + 1) + 6)) := Lib.hid (HG.out.less (by omega))
      clear HC HG
      have HG := HG2
      clear HG2
      go_wp2_with (first
        | ((with_reducible apply own_row HM); exact rfl; exact rfl; exact aggR; (with_reducible first | exact .z | exact .s .z | exact .s (.s .z) | exact .s (.s (.s .z)) | exact .s (.s (.s (.s .z)))); exact rfl; (first | exact Rg.cells_length _ | exact rfl); all_goals skip)
        | (go_at_call 13; have hbx : Hid (Bx _ _ b _ [_, _, _] _) := Lib.hid ⟨HG.out, X, HX.out, HM.out⟩; (with_reducible refine (step_to HT HR1 hr' hk' hu' hbx).mono ?_); clear hbx; rintro e w' ⟨rfl, HR', hB⟩; clear HM HG HX HR1; obtain ⟨HG, X, HX, HM⟩ := hB.out.hid3; have HR1 := HR'; clear HR')
        | ((with_reducible apply own_lay HM); exact rfl; exact rfl; exact rfl; (with_reducible first | exact .z | exact .s .z | exact .s (.s .z) | exact .s (.s (.s .z)) | exact .s (.s (.s (.s .z)))); (with_reducible first | exact .z | exact .s .z | exact .s (.s .z) | exact .s (.s (.s .z)) | exact .s (.s (.s (.s .z)))); exact aggR.size; (first | exact Rg.cells_length _ | exact rfl); (first | exact Rg.cells_length _ | exact rfl); (first | exact Rg.one1 _ | exact rfl); exact rfl; exact rfl; clear HM; intro w' HM; all_goals skip))
      go_roundw
      case rel => exact ⟨i + 1, r', u', X, by omega, by go_num, HR1, HC', HG, HX, HM⟩
      case measure => simp [intOf]; omega
    · have hlt2 : ¬ (i : Int) < (nk : Int) := by omega
      obtain rfl : i = nk := by omega
      have hA := HAll.out
      rw [HC.out] at hA
      have ES := Rg.same r
      by_cases k7 : k = 7
      · subst k7
        have hE : Hid (((((r1.bPC r.pc).bR r.r).bWZ r.wz).bDL r.dl).bF r.f = r) := Lib.hid (hA.2 rfl)
        clear hA HC hi hlt
        go_upto_region 21 with (first
          | ((with_reducible apply own_get HM); exact rfl; exact rfl; (with_reducible first | exact oneU8 | exact oneU16 | exact oneBool | exact oneInt); (with_reducible first | exact .z | exact .s .z | exact .s (.s .z) | exact .s (.s (.s .z)) | exact .s (.s (.s (.s .z)))); (conv => lhs; whnf); exact rfl; all_goals skip)
          | ((with_reducible apply own_setc HM); exact rfl; exact rfl; exact rfl; exact .z; (first | exact bs_pc | exact bs_r | exact bs_wz | exact bs_dl | exact bs_f); exact .z; (first | (with_reducible exact oneU8.size) | (with_reducible exact oneU16.size) | (with_reducible exact oneBool.size)); exact rfl; exact rfl; (rw [Rg.cells_length]; decide); exact rfl; clear HM; intro w' HM; all_goals skip))
        rw [hE.out] at HM
        go_wp2_with (first
          | ((with_reducible apply own_row HM); exact rfl; exact rfl; exact aggR; (with_reducible first | exact .z | exact .s .z | exact .s (.s .z) | exact .s (.s (.s .z)) | exact .s (.s (.s (.s .z)))); exact rfl; (first | exact Rg.cells_length _ | exact rfl); all_goals skip) | ((with_reducible apply own_get HM); exact rfl; exact rfl; (with_reducible first | exact oneU8 | exact oneU16 | exact oneBool | exact oneInt); (with_reducible first | exact .z | exact .s .z | exact .s (.s .z) | exact .s (.s (.s .z)) | exact .s (.s (.s (.s .z)))); (conv => lhs; whnf); exact rfl; all_goals skip))
        go_ret
        exact ⟨rfl, Own.fin HM⟩
      · have k7i : ¬ (k : Int) = 7 := by omega
        have hE : Hid ((((r1.bPC r.pc).bR r.r).bWZ r.wz).bDL r.dl = r) := Lib.hid (hA.1 k7)
        clear hA HC hi hlt
        go_upto_region 21 with (first
          | ((with_reducible apply own_get HM); exact rfl; exact rfl; (with_reducible first | exact oneU8 | exact oneU16 | exact oneBool | exact oneInt); (with_reducible first | exact .z | exact .s .z | exact .s (.s .z) | exact .s (.s (.s .z)) | exact .s (.s (.s (.s .z)))); (conv => lhs; whnf); exact rfl; all_goals skip)
          | ((with_reducible apply own_setc HM); exact rfl; exact rfl; exact rfl; exact .z; (first | exact bs_pc | exact bs_r | exact bs_wz | exact bs_dl | exact bs_f); exact .z; (first | (with_reducible exact oneU8.size) | (with_reducible exact oneU16.size) | (with_reducible exact oneBool.size)); exact rfl; exact rfl; (rw [Rg.cells_length]; decide); exact rfl; clear HM; intro w' HM; all_goals skip))
        rw [hE.out] at HM
        go_wp2_with (first
          | ((with_reducible apply own_row HM); exact rfl; exact rfl; exact aggR; (with_reducible first | exact .z | exact .s .z | exact .s (.s .z) | exact .s (.s (.s .z)) | exact .s (.s (.s (.s .z)))); exact rfl; (first | exact Rg.cells_length _ | exact rfl); all_goals skip) | ((with_reducible apply own_get HM); exact rfl; exact rfl; (with_reducible first | exact oneU8 | exact oneU16 | exact oneBool | exact oneInt); (with_reducible first | exact .z | exact .s .z | exact .s (.s .z) | exact .s (.s (.s .z)) | exact .s (.s (.s (.s .z)))); (conv => lhs; whnf); exact rfl; all_goals skip))
        go_ret
        exact ⟨rfl, Own.fin HM⟩
end Go.Proofs.YtljjgakfnajifaaGreatDoor
namespace Go.Proofs.YtljjgakfnajifaaGreatDoor
open Go.ChangeShapes Go.WideShapes Go.ChangeAt Go.RowKit
section
variable {H : Type} {enc : TypeId × Value → H} {W : World} {fuel : Nat} {y : DataW H × List MemPlace}
theorem kU8 : Tryz.prog.cellsOf 5 = 1 := by kernel_rfl
theorem kU16 : Tryz.prog.cellsOf 23 = 1 := by kernel_rfl
theorem kBool : Tryz.prog.cellsOf 4 = 1 := by kernel_rfl
theorem kAlt : Tryz.prog.cellsOf 22 = 8 := by kernel_rfl
theorem kRegs : Tryz.prog.cellsOf 25 = 29 := by kernel_rfl
theorem bool_open {c : Value} (h : DataW.trod enc Tryz.prog W 0 (fun _ => true) true fuel 4 [c] = some y) : ∃ n, c = .bool n := by
  obtain ⟨a, e, -⟩ := DataW.trod_bool Tryz.underlying4 h
  simp at e; exact ⟨a, e⟩
theorem u8_open {c : Value} (h : DataW.trod enc Tryz.prog W 0 (fun _ => true) true fuel 5 [c] = some y) : ∃ n : Nat, c = .int .u8 (n : Int) ∧ n < 256 := by
  obtain ⟨a, e, -, w⟩ := DataW.trod_int Tryz.underlying5 h
  simp at e
  have := bounds_u8 w
  obtain ⟨n, rfl⟩ := Int.eq_ofNat_of_zero_le this.1
  exact ⟨n, e, by omega⟩
theorem u16_open {c : Value} (h : DataW.trod enc Tryz.prog W 0 (fun _ => true) true fuel 23 [c] = some y) : ∃ n : Nat, c = .int .u16 (n : Int) ∧ n < 65536 := by
  obtain ⟨a, e, -, w⟩ := DataW.trod_int Tryz.underlying23 h
  simp at e
  have := bounds_u16 w
  obtain ⟨n, rfl⟩ := Int.eq_ofNat_of_zero_le this.1
  exact ⟨n, e, by omega⟩
theorem alt_open {a0 a1 a2 a3 a4 a5 a6 a7 : Value} (h : DataW.trod enc Tryz.prog W 0 (fun _ => true) true fuel 22 [a0, a1, a2, a3, a4, a5, a6, a7] = some y) :
    ∃ n0 n1 n2 n3 n4 n5 n6 n7 : Nat, (a0 = .int .u8 (n0 : Int) ∧ a1 = .int .u8 (n1 : Int) ∧ a2 = .int .u8 (n2 : Int) ∧ a3 = .int .u8 (n3 : Int) ∧ a4 = .int .u8 (n4 : Int) ∧ a5 = .int .u8 (n5 : Int) ∧ a6 = .int .u8 (n6 : Int) ∧ a7 = .int .u8 (n7 : Int)) ∧ n0 < 256 ∧ n1 < 256 ∧ n2 < 256 ∧ n3 < 256 ∧ n4 < 256 ∧ n5 < 256 ∧ n6 < 256 ∧ n7 < 256 := by
  obtain ⟨xs, m, rfl, -, hlen, hn, hel⟩ := DataW.trod_array Tryz.underlying22 h
  match xs, hn, hel with
  | [x0, x1, x2, x3, x4, x5, x6, x7], _, hel =>
    have h0 := hel 0 (by decide)
    have h1 := hel 1 (by decide)
    have h2 := hel 2 (by decide)
    have h3 := hel 3 (by decide)
    have h4 := hel 4 (by decide)
    have h5 := hel 5 (by decide)
    have h6 := hel 6 (by decide)
    have h7 := hel 7 (by decide)
    simp [kU8] at h0 h1 h2 h3 h4 h5 h6 h7
    obtain ⟨n0, rfl, b0⟩ := u8_open h0
    obtain ⟨n1, rfl, b1⟩ := u8_open h1
    obtain ⟨n2, rfl, b2⟩ := u8_open h2
    obtain ⟨n3, rfl, b3⟩ := u8_open h3
    obtain ⟨n4, rfl, b4⟩ := u8_open h4
    obtain ⟨n5, rfl, b5⟩ := u8_open h5
    obtain ⟨n6, rfl, b6⟩ := u8_open h6
    obtain ⟨n7, rfl, b7⟩ := u8_open h7
    exact ⟨n0, n1, n2, n3, n4, n5, n6, n7, ⟨rfl, rfl, rfl, rfl, rfl, rfl, rfl, rfl⟩, b0, b1, b2, b3, b4, b5, b6, b7⟩
set_option maxRecDepth 100000 in
theorem regs_cells {cs : List Value} (h : DataW.trod enc Tryz.prog W 0 (fun _ => true) true fuel 25 cs = some y) : ∃ r : Rg, cs = r.cells ∧ r.Fits := by
  obtain ⟨xs, n, -, -, hl, hxs, hf⟩ := DataW.trod_struct Tryz.underlying25 h
  rw [kRegs] at hl
  match cs, hl, xs, hxs with
  | [c0, c1, c2, c3, c4, c5, c6, c7, c8, c9, c10, c11, c12, c13, c14, c15, c16, c17, c18, c19, c20, c21, c22, c23, c24, c25, c26, c27, c28], _, [y0, y1, y2, y3, y4, y5, y6, y7, y8, y9, y10, y11, y12, y13, y14, y15, y16, y17, y18, y19, y20, y21], _ =>
    have h0 := hf 0 _ rfl
    simp [kU8] at h0
    have h1 := hf 1 _ rfl
    simp [kU8] at h1
    have h2 := hf 2 _ rfl
    simp [kU8] at h2
    have h3 := hf 3 _ rfl
    simp [kU8] at h3
    have h4 := hf 4 _ rfl
    simp [kU8] at h4
    have h5 := hf 5 _ rfl
    simp [kU8] at h5
    have h6 := hf 6 _ rfl
    simp [kU8] at h6
    have h7 := hf 7 _ rfl
    simp [kU8] at h7
    have h8 := hf 8 _ rfl
    simp [kAlt] at h8
    have h9 := hf 9 _ rfl
    simp [kU16] at h9
    have h10 := hf 10 _ rfl
    simp [kU16] at h10
    have h11 := hf 11 _ rfl
    simp [kU16] at h11
    have h12 := hf 12 _ rfl
    simp [kU16] at h12
    have h13 := hf 13 _ rfl
    simp [kU16] at h13
    have h14 := hf 14 _ rfl
    simp [kU8] at h14
    have h15 := hf 15 _ rfl
    simp [kU8] at h15
    have h16 := hf 16 _ rfl
    simp [kU8] at h16
    have h17 := hf 17 _ rfl
    simp [kU8] at h17
    have h18 := hf 18 _ rfl
    simp [kBool] at h18
    have h19 := hf 19 _ rfl
    simp [kBool] at h19
    have h20 := hf 20 _ rfl
    simp [kBool] at h20
    have h21 := hf 21 _ rfl
    simp [kBool] at h21
    clear hf
    obtain ⟨n0, rfl, b0⟩ := u8_open h0
    obtain ⟨n1, rfl, b1⟩ := u8_open h1
    obtain ⟨n2, rfl, b2⟩ := u8_open h2
    obtain ⟨n3, rfl, b3⟩ := u8_open h3
    obtain ⟨n4, rfl, b4⟩ := u8_open h4
    obtain ⟨n5, rfl, b5⟩ := u8_open h5
    obtain ⟨n6, rfl, b6⟩ := u8_open h6
    obtain ⟨n7, rfl, b7⟩ := u8_open h7
    obtain ⟨n8, n9, n10, n11, n12, n13, n14, n15, ⟨rfl, rfl, rfl, rfl, rfl, rfl, rfl, rfl⟩, b8, b9, b10, b11, b12, b13, b14, b15⟩ := alt_open h8
    obtain ⟨n16, rfl, b16⟩ := u16_open h9
    obtain ⟨n17, rfl, b17⟩ := u16_open h10
    obtain ⟨n18, rfl, b18⟩ := u16_open h11
    obtain ⟨n19, rfl, b19⟩ := u16_open h12
    obtain ⟨n20, rfl, b20⟩ := u16_open h13
    obtain ⟨n21, rfl, b21⟩ := u8_open h14
    obtain ⟨n22, rfl, b22⟩ := u8_open h15
    obtain ⟨n23, rfl, b23⟩ := u8_open h16
    obtain ⟨n24, rfl, b24⟩ := u8_open h17
    obtain ⟨n25, rfl⟩ := bool_open h18
    obtain ⟨n26, rfl⟩ := bool_open h19
    obtain ⟨n27, rfl⟩ := bool_open h20
    obtain ⟨n28, rfl⟩ := bool_open h21
    exact ⟨⟨n0, n1, n2, n3, n4, n5, n6, n7, n8, n9, n10, n11, n12, n13, n14, n15, n16, n17, n18, n19, n20, n21, n22, n23, n24, n25, n26, n27, n28⟩, rfl, ⟨b0, b1, b2, b3, b4, b5, b6, b7, b8, b9, b10, b11, b12, b13, b14, b15, b16, b17, b18, b19, b20, b21, b22, b23, b24⟩⟩
end
set_option maxRecDepth 100000 in
theorem regs_in {H : Type} {enc : TypeId × Value → H} {W : World} {b0 : Nat} {v : Value} {d : DataW H} {q : List MemPlace} (hv : Value.okWide Tryz.prog W .any b0 25 v) (h : DataW.Trod enc Tryz.prog W 0 (fun _ => true) true 25 v d q) :
    ∃ r : Rg, v = r.v ∧ r.Fits := by
  obtain ⟨cs, rfl, hsz⟩ := okWide_struct Tryz.underlying25 hv
  obtain ⟨fuel, hf⟩ := h
  obtain ⟨r, e, hF⟩ := regs_cells hf
  refine ⟨r, ?_, hF⟩
  obtain ⟨l⟩ := cs
  simp [Value.cells] at e
  rw [e]
end Go.Proofs.YtljjgakfnajifaaGreatDoor
namespace Go.Proofs.YtljjgakfnajifaaGreatDoor.cpuBack
open Go.ChangeShapes Go.WideShapes Go.ChangeAt Go.RowKit
theorem own : ownKnob Tryz.prog.godebug = none := by kernel_rfl
theorem door_met (os : Os) (args : Array Value) : laidMetH Tryz.prog Rows.cpuBackRow.laid ((World.doorLaid Tryz.prog 400 os).forCall (fun _ _ => 0) ⟨#[], args, []⟩).memory :=
  laidMetH_of_parts3 (fuel := 8) (laidMet_of_run' 8 (by kernel_rfl) (by kernel_rfl)) (by kernel_rfl) (by kernel_rfl)
theorem laidOut : laidOutB Tryz.prog = true := by kernel_rfl
set_option maxRecDepth 100000 in
set_option maxHeartbeats 6400000 in
theorem lifted (os : Os) (started : os.Started) (H : Type) (enc : TypeId × Value → H) :
    ReturnsInHanded {} Tryz.checked os 8 .any (fun w args => (Rows.cpuBackSpec.pre enc Tryz.prog Tryz.f8 [] false w args ∧ laidMetH Tryz.prog Rows.cpuBackRow.laid w) ∧ sizedMet enc Tryz.prog Tryz.f8 (OpenSpec.ofChange Rows.cpuBackSpec) false w args) (Rows.cpuBackSpec.post enc Tryz.prog Tryz.f8 false true false false) := by
  refine returnsInHanded_of_change_and (C := Tryz.checked) (X := fun w _ => laidMetH Tryz.prog Rows.cpuBackRow.laid w) (fun _ _ _ hh h => h.of_heap hh) own started (by kernel_rfl) Tryz.func8
    (ChangeSpec.witness_shaped (enc := enc) (C := Tryz.checked) (os := os) (X := fun w _ => laidMetH Tryz.prog Rows.cpuBackRow.laid w) false (World.doorLaid Tryz.prog 400 os) #[.agg #[.int .u8 0, .int .u8 0, .int .u8 0, .int .u8 0, .int .u8 0, .int .u8 0, .int .u8 0, .int .u8 0, .int .u8 0, .int .u8 0, .int .u8 0, .int .u8 0, .int .u8 0, .int .u8 0, .int .u8 0, .int .u8 0, .int .u16 0, .int .u16 0, .int .u16 0, .int .u16 0, .int .u16 0, .int .u8 0, .int .u8 0, .int .u8 0, .int .u8 0, .bool false, .bool false, .bool false, .bool false], .int .i64 0] 8 rfl (World.shaped_of_RefB (by kernel_rfl) (by kernel_rfl)) (by kernel_rfl) (by kernel_rfl) (by kernel_rfl) (door_met os _)) ?_
  intro W base args ds gs before hval0 hW _ _ hL _
  have hT := tabs_of hL
  have hval : ∀ (j : Nat) t v, Tryz.f8.params[j]? = some t → args[j]? = some v → Value.okWide Tryz.prog W .any base t v := hval0
  have hW' := hW
  obtain ⟨p, q, hA0, hV, rfl, hfz, hnd⟩ := hW
  have hA : DataW.TrodAll enc Tryz.prog W 0 (fun _ => true) true Tryz.f8.params.toList args.toList ds p := hA0
  rw [Tryz.params8] at hA hval
  obtain ⟨v0, vs0, d0, ds0, p0, q0, hargs, rfl, rfl, h0, r0⟩ := trodAll_cons hA
  obtain ⟨v1, vs1, d1, ds1, p1, q1, rfl, rfl, rfl, h1, r1⟩ := trodAll_cons r0
  obtain ⟨rfl, rfl, rfl⟩ := trodAll_nil r1
  obtain rfl : args = #[v0, v1] := by cases args; simp_all
  obtain ⟨rfl, rfl⟩ := trodVars_none hV
  have k0 := h0
  have lt0 : ∀ x ∈ p0, x.block < W.heap.size := by obtain ⟨m, hm⟩ := k0; exact DataW.trod_lt m _ _ _ hm
  have k1 := h1
  have lt1 : ∀ x ∈ p1, x.block < W.heap.size := by obtain ⟨m, hm⟩ := k1; exact DataW.trod_lt m _ _ _ hm
  obtain ⟨r, rfl, hr⟩ := regs_in (hval 0 25 v0 rfl rfl) h0
  obtain ⟨x1, rfl, rfl, rfl, w1⟩ := open_int Tryz.underlying3 (hval 1 3 v1 rfl rfl) h1
  clear hA0 hval0
  refine ((back_any r hr x1 W hT)).mono fun e W' ⟨he, bel⟩ => ?_
  subst he
  exact ⟨_, rfl, _, _, _, [], _, [], hW', trodAll_mk1 (shut_bool Tryz.underlying4 _), (trodAll_cons_mk (Below.trod laidOut (by kernel_rfl) (of_decide_eq_true (by kernel_rfl)) k0 bel lt0) (trodAll_cons_mk (Below.trod laidOut (by kernel_rfl) (of_decide_eq_true (by kernel_rfl)) k1 bel lt1) trodAll_mk0)), rfl, bel.frame _, fun h => by cases h⟩
theorem over : Rows.cpuBackRow.holds Tryz.pinned (OpenSpec.ofChange Rows.cpuBackSpec) :=
  OpenClaim.holds_of_wide 8 Tryz.f8 rfl rfl rfl rfl rfl rfl rfl ⟨rfl, rfl, rfl, rfl, rfl⟩ rfl rfl rfl rfl rfl (by kernel_rfl) Tryz.func8 (by kernel_rfl)
    (of_decide_eq_true (by kernel_rfl)) (by unfold Func.isWrapper; first | (rw [if_pos (by decide +kernel)]; kernel_rfl) | (rw [if_neg (by decide +kernel)]; exact ⟨rfl, rfl⟩))
    (fun os started H enc _ => lifted os started H enc)
theorem proved : Rows.CpuBackCardSaid :=
  Claim7.holds_tied_plain_at .later [] [.data, .data] true _ false
    over (fun _ h => by cases h) (by kernel_rfl) (fun _ h => by cases h) cpuBack_row_tie rfl ⟨rfl, rfl⟩ (by kernel_rfl) rfl
    (fun f fn hf hfn => by
      obtain rfl : f = 8 := Option.some.inj ((show Tryz.prog.funcNamed "joystick/joysticklaw12.CpuBack" = some 8 by kernel_rfl).symm.trans hf) |>.symm
      obtain rfl : fn = Tryz.f8 := (Option.some.inj (Tryz.func8.symm.trans hfn)).symm
      exact ⟨by kernel_rfl, fun j t ht => by
        rw [Tryz.params8] at ht
        have hm : t ∈ [25, 3] := by simpa using Array.mem_of_getElem? ht
        have hall : ([25, 3].all fun u => !Tryz.prog.wantsStandIn u) = true := by kernel_rfl
        exact (show Tryz.prog.wantsStandIn t = false by simpa using List.all_eq_true.1 hall t hm)⟩)
    (by kernel_rfl)
end Go.Proofs.YtljjgakfnajifaaGreatDoor.cpuBack
