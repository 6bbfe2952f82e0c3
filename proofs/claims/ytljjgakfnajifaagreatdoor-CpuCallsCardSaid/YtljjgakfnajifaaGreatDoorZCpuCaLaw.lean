import Derived.Test.YtljjgakfnajifaaGreatDoorZBase
import Derived.Test.YtljjgakfnajifaaGreatDoorZCpuAw
import Derived.Deep.Cut
import Derived.Deep.CutRange
import Derived.ProofKit
import Derived.OpenShut
import Derived.ChangeOld
import Derived.Below
import Derived.ChangeArms
import Derived.Lib.SmallJoins
import Derived.LaidMore
import Derived.Stop.Joined
import Derived.Lib.LaidTab
import Derived.MakeChecks
import Derived.SevenTiedAt
import Derived.Test.YtljjgakfnajifaaGreatDoorTie
import Derived.Test.YtljjgakfnajifaaGreatDoorCards
namespace Go.Proofs.YtljjgakfnajifaaGreatDoor
open Go.RowKit
set_option maxRecDepth 100000 in
set_option maxHeartbeats 1600000 in
theorem rrightRegs (r : Rg) (b : Bool) (hb : Hid (r.right = b)) (w : World) : Calls Tryz.prog 17 #[r.v] w fun e w' => e = .returned (.bool b) ∧ Below w.heap.size w w' := by
  by_cases h0 : (r.im : Int) < 3
  · have h0' : r.im ≤ 2 := by omega
    rcases (show r.px = 0 ∨ r.px = 221 ∨ r.px = 253 ∨ (¬ r.px = 0 ∧ ¬ r.px = 221 ∧ ¬ r.px = 253) by omega) with h1 | h1 | h1 | ⟨h1, h2, h3⟩
    · have e : b = true := by rw [← hb.out]; simp [Rg.right, h0', h1]
      clear hb h0'
      obtain ⟨a, f, b, c, d, e1, h, l, x0, x1, x2, x3, x4, x5, x6, x7, ix, iy, sp, pc, wz, i, r, im, px, q1, q2, ht, dl⟩ := r
      simp only at h1 h0
      subst e h1
      have HM := Lib.hid (Own.start w)
      have tg1 : Hid True := trivial
      go_enter Tryz.func17, Tryz.ntmps17
      go_upto_region 1 with (first | ((with_reducible apply own_box HM); exact rfl; (conv => lhs; whnf); exact rfl; exact rfl; (first | (clear tg1 HM; intro w' g1 HM) | (clear tg2 HM; intro w' g2 HM) | (clear tg3 HM; intro w' g3 HM) | (clear tg4 HM; intro w' g4 HM) | (clear HM; intro w' g' HM)); all_goals skip))
      (refine own_inorder HM ?_; (try simp only [Act.put, List.setIfInBounds_toArray, List.set_cons_zero, List.set_cons_succ]); repeat ((fail_if_success (with_reducible refine wpQuiet_nil ?_)); first | go_big_quiet_skip | (go_big_quiet_want; first | ((with_reducible apply quiet_row); exact rfl; exact aggR; (with_reducible first | exact .z | exact .s .z | exact .s (.s .z) | exact .s (.s (.s .z)) | exact .s (.s (.s (.s .z)))); (first | exact Rg.cells_length _ | exact rfl); go_big_quiet_op; go_big_quiet_on) | ((with_reducible apply quiet_get); exact rfl; (first | (with_reducible exact oneU8) | (with_reducible exact oneU16) | (with_reducible exact oneBool)); (with_reducible first | exact .z | exact .s .z | exact .s (.s .z) | exact .s (.s (.s .z)) | exact .s (.s (.s (.s .z)))); exact rfl; go_big_quiet_op; go_big_quiet_on) | ((with_reducible apply quiet_load); exact rfl; (with_reducible exact aggAlt); (with_reducible first | exact .z | exact .s .z | exact .s (.s .z) | exact .s (.s (.s .z)) | exact .s (.s (.s (.s .z)))); exact Rg.altDrop _; exact Rg.altTake _; go_big_quiet_op; go_big_quiet_on) | (go_big_quiet_op; go_big_quiet_on) | (go_big_quiet_op; refine ⟨_, fun _ _ => rfl, ?_⟩; go_big_quiet_on))))
      refine wpQuiet_nil ?_
      intro w' HM'
      clear HM; have HM := HM'; clear HM'
      go_wp2_with fail
      go_ret
      exact ⟨rfl, Own.fin HM⟩
    · have e : b = true := by rw [← hb.out]; simp [Rg.right, h0', h1]
      have h4 : ((r.px : Int) == 0) = false := by rw [h1]; rfl
      have h5 : ((r.px : Int) == 221) = true := by rw [h1]; rfl
      subst e
      have HM := Lib.hid (Own.start w)
      have tg1 : Hid True := trivial
      go_enter Tryz.func17, Tryz.ntmps17
      go_upto_region 1 with (first | ((with_reducible apply own_box HM); exact rfl; (conv => lhs; whnf); exact rfl; exact rfl; (first | (clear tg1 HM; intro w' g1 HM) | (clear tg2 HM; intro w' g2 HM) | (clear tg3 HM; intro w' g3 HM) | (clear tg4 HM; intro w' g4 HM) | (clear HM; intro w' g' HM)); all_goals skip))
      (refine own_inorder HM ?_; (try simp only [Act.put, List.setIfInBounds_toArray, List.set_cons_zero, List.set_cons_succ]); repeat ((fail_if_success (with_reducible refine wpQuiet_nil ?_)); first | go_big_quiet_skip | (go_big_quiet_want; first | ((with_reducible apply quiet_row); exact rfl; exact aggR; (with_reducible first | exact .z | exact .s .z | exact .s (.s .z) | exact .s (.s (.s .z)) | exact .s (.s (.s (.s .z)))); (first | exact Rg.cells_length _ | exact rfl); go_big_quiet_op; go_big_quiet_on) | ((with_reducible apply quiet_get); exact rfl; (first | (with_reducible exact oneU8) | (with_reducible exact oneU16) | (with_reducible exact oneBool)); (with_reducible first | exact .z | exact .s .z | exact .s (.s .z) | exact .s (.s (.s .z)) | exact .s (.s (.s (.s .z)))); exact rfl; go_big_quiet_op; go_big_quiet_on) | ((with_reducible apply quiet_load); exact rfl; (with_reducible exact aggAlt); (with_reducible first | exact .z | exact .s .z | exact .s (.s .z) | exact .s (.s (.s .z)) | exact .s (.s (.s (.s .z)))); exact Rg.altDrop _; exact Rg.altTake _; go_big_quiet_op; go_big_quiet_on) | (go_big_quiet_op; go_big_quiet_on) | (go_big_quiet_op; refine ⟨_, fun _ _ => rfl, ?_⟩; go_big_quiet_on))))
      refine wpQuiet_nil ?_
      intro w' HM'
      clear HM; have HM := HM'; clear HM'
      go_wp2_with fail
      go_ret
      exact ⟨rfl, Own.fin HM⟩
    · have e : b = true := by rw [← hb.out]; simp [Rg.right, h0', h1]
      have h4 : ((r.px : Int) == 0) = false := by rw [h1]; rfl
      have h5 : ((r.px : Int) == 221) = false := by rw [h1]; rfl
      have h6 : ((r.px : Int) == 253) = true := by rw [h1]; rfl
      subst e
      have HM := Lib.hid (Own.start w)
      have tg1 : Hid True := trivial
      go_enter Tryz.func17, Tryz.ntmps17
      go_upto_region 1 with (first | ((with_reducible apply own_box HM); exact rfl; (conv => lhs; whnf); exact rfl; exact rfl; (first | (clear tg1 HM; intro w' g1 HM) | (clear tg2 HM; intro w' g2 HM) | (clear tg3 HM; intro w' g3 HM) | (clear tg4 HM; intro w' g4 HM) | (clear HM; intro w' g' HM)); all_goals skip))
      (refine own_inorder HM ?_; (try simp only [Act.put, List.setIfInBounds_toArray, List.set_cons_zero, List.set_cons_succ]); repeat ((fail_if_success (with_reducible refine wpQuiet_nil ?_)); first | go_big_quiet_skip | (go_big_quiet_want; first | ((with_reducible apply quiet_row); exact rfl; exact aggR; (with_reducible first | exact .z | exact .s .z | exact .s (.s .z) | exact .s (.s (.s .z)) | exact .s (.s (.s (.s .z)))); (first | exact Rg.cells_length _ | exact rfl); go_big_quiet_op; go_big_quiet_on) | ((with_reducible apply quiet_get); exact rfl; (first | (with_reducible exact oneU8) | (with_reducible exact oneU16) | (with_reducible exact oneBool)); (with_reducible first | exact .z | exact .s .z | exact .s (.s .z) | exact .s (.s (.s .z)) | exact .s (.s (.s (.s .z)))); exact rfl; go_big_quiet_op; go_big_quiet_on) | ((with_reducible apply quiet_load); exact rfl; (with_reducible exact aggAlt); (with_reducible first | exact .z | exact .s .z | exact .s (.s .z) | exact .s (.s (.s .z)) | exact .s (.s (.s (.s .z)))); exact Rg.altDrop _; exact Rg.altTake _; go_big_quiet_op; go_big_quiet_on) | (go_big_quiet_op; go_big_quiet_on) | (go_big_quiet_op; refine ⟨_, fun _ _ => rfl, ?_⟩; go_big_quiet_on))))
      refine wpQuiet_nil ?_
      intro w' HM'
      clear HM; have HM := HM'; clear HM'
      go_wp2_with fail
      go_ret
      exact ⟨rfl, Own.fin HM⟩
    · have e : b = false := by rw [← hb.out]; simp [Rg.right, h1, h2, h3]
      have h4 : ((r.px : Int) == 0) = false := by simp; omega
      have h5 : ((r.px : Int) == 221) = false := by simp; omega
      have h6 : ((r.px : Int) == 253) = false := by simp; omega
      subst e
      have HM := Lib.hid (Own.start w)
      have tg1 : Hid True := trivial
      go_enter Tryz.func17, Tryz.ntmps17
      go_upto_region 1 with (first | ((with_reducible apply own_box HM); exact rfl; (conv => lhs; whnf); exact rfl; exact rfl; (first | (clear tg1 HM; intro w' g1 HM) | (clear tg2 HM; intro w' g2 HM) | (clear tg3 HM; intro w' g3 HM) | (clear tg4 HM; intro w' g4 HM) | (clear HM; intro w' g' HM)); all_goals skip))
      (refine own_inorder HM ?_; (try simp only [Act.put, List.setIfInBounds_toArray, List.set_cons_zero, List.set_cons_succ]); repeat ((fail_if_success (with_reducible refine wpQuiet_nil ?_)); first | go_big_quiet_skip | (go_big_quiet_want; first | ((with_reducible apply quiet_row); exact rfl; exact aggR; (with_reducible first | exact .z | exact .s .z | exact .s (.s .z) | exact .s (.s (.s .z)) | exact .s (.s (.s (.s .z)))); (first | exact Rg.cells_length _ | exact rfl); go_big_quiet_op; go_big_quiet_on) | ((with_reducible apply quiet_get); exact rfl; (first | (with_reducible exact oneU8) | (with_reducible exact oneU16) | (with_reducible exact oneBool)); (with_reducible first | exact .z | exact .s .z | exact .s (.s .z) | exact .s (.s (.s .z)) | exact .s (.s (.s (.s .z)))); exact rfl; go_big_quiet_op; go_big_quiet_on) | ((with_reducible apply quiet_load); exact rfl; (with_reducible exact aggAlt); (with_reducible first | exact .z | exact .s .z | exact .s (.s .z) | exact .s (.s (.s .z)) | exact .s (.s (.s (.s .z)))); exact Rg.altDrop _; exact Rg.altTake _; go_big_quiet_op; go_big_quiet_on) | (go_big_quiet_op; go_big_quiet_on) | (go_big_quiet_op; refine ⟨_, fun _ _ => rfl, ?_⟩; go_big_quiet_on))))
      refine wpQuiet_nil ?_
      intro w' HM'
      clear HM; have HM := HM'; clear HM'
      go_wp2_with fail
      go_ret
      exact ⟨rfl, Own.fin HM⟩
  · have e : b = false := by rw [← hb.out]; simp [Rg.right]; omega
    subst e
    have HM := Lib.hid (Own.start w)
    have tg1 : Hid True := trivial
    go_enter Tryz.func17, Tryz.ntmps17
    go_upto_region 1 with (first | ((with_reducible apply own_box HM); exact rfl; (conv => lhs; whnf); exact rfl; exact rfl; (first | (clear tg1 HM; intro w' g1 HM) | (clear tg2 HM; intro w' g2 HM) | (clear tg3 HM; intro w' g3 HM) | (clear tg4 HM; intro w' g4 HM) | (clear HM; intro w' g' HM)); all_goals skip))
    (refine own_inorder HM ?_; (try simp only [Act.put, List.setIfInBounds_toArray, List.set_cons_zero, List.set_cons_succ]); repeat ((fail_if_success (with_reducible refine wpQuiet_nil ?_)); first | go_big_quiet_skip | (go_big_quiet_want; first | ((with_reducible apply quiet_row); exact rfl; exact aggR; (with_reducible first | exact .z | exact .s .z | exact .s (.s .z) | exact .s (.s (.s .z)) | exact .s (.s (.s (.s .z)))); (first | exact Rg.cells_length _ | exact rfl); go_big_quiet_op; go_big_quiet_on) | ((with_reducible apply quiet_get); exact rfl; (first | (with_reducible exact oneU8) | (with_reducible exact oneU16) | (with_reducible exact oneBool)); (with_reducible first | exact .z | exact .s .z | exact .s (.s .z) | exact .s (.s (.s .z)) | exact .s (.s (.s (.s .z)))); exact rfl; go_big_quiet_op; go_big_quiet_on) | ((with_reducible apply quiet_load); exact rfl; (with_reducible exact aggAlt); (with_reducible first | exact .z | exact .s .z | exact .s (.s .z) | exact .s (.s (.s .z)) | exact .s (.s (.s (.s .z)))); exact Rg.altDrop _; exact Rg.altTake _; go_big_quiet_op; go_big_quiet_on) | (go_big_quiet_op; go_big_quiet_on) | (go_big_quiet_op; refine ⟨_, fun _ _ => rfl, ?_⟩; go_big_quiet_on))))
    refine wpQuiet_nil ?_
    intro w' HM'
    clear HM; have HM := HM'; clear HM'
    go_wp2_with fail
    go_ret
    exact ⟨rfl, Own.fin HM⟩
end Go.Proofs.YtljjgakfnajifaaGreatDoor
namespace Go.Proofs.YtljjgakfnajifaaGreatDoor
open Go.RowKit
theorem mcells_201 (m : Nat → Nat) (a : Nat) : (mcells m).set a (.int .u8 201) = mcells (upd m a 201) := mcells_set m a 201
def Rg.wPC (r : Rg) (v : Nat) : Rg := { r with pc := v }
def Rg.wR (r : Rg) (v : Nat) : Rg := { r with r := v }
def Rg.wWZ (r : Rg) (v : Nat) : Rg := { r with wz := v }
def Rg.wDL (r : Rg) (v : Bool) : Rg := { r with dl := v }
theorem rs_pc {r : Rg} {v : Nat} : r.cells.set 19 (.int .u16 (v : Int)) = (r.wPC v).cells := rfl
theorem rs_r {r : Rg} {v : Nat} : r.cells.set 22 (.int .u8 (v : Int)) = (r.wR v).cells := rfl
theorem rs_wz {r : Rg} {v : Nat} : r.cells.set 20 (.int .u16 (v : Int)) = (r.wWZ v).cells := rfl
theorem rs_dl {r : Rg} {v : Bool} : r.cells.set 28 (.bool v) = (r.wDL v).cells := rfl
theorem calls_made (lo hi : Nat) (w : World) : (Instr.buildSlice 30 3 #[(0, .int .u8 205), (1, .int .u8 (lo : Int)), (2, .int .u8 (hi : Int))]).run Tryz.prog w = .ok (.slice (some ⟨w.heap.size, 0, none⟩) 3 3) (w.alloc (.cells ([.int .u8 205, .int .u8 (lo : Int), .int .u8 (hi : Int)] : List Value).toArray 5)) := by kernel_rfl
theorem box_calls {W0 w : World} {l : Blocks} {g : Nat} (pc lo hi : Nat) (hpc : pc < 65536) (h1 : lo < 256) (h2 : hi < 256) (h : Hid (Own W0 w ((g, 5, [.int .u8 205, .int .u8 (lo : Int), .int .u8 (hi : Int)]) :: l))) :
    Calls Tryz.prog 14 #[.int .u16 (pc : Int), .slice (some ⟨g, 0, none⟩) 3 3, .int .u8 0] w fun e w' => ∃ b, e = .returned (.pointer (some ⟨b, 0, none⟩)) ∧ Hid (Bx W0 w' b ⟨lay (bas 0) pc [205, lo, hi], []⟩ ((g, 5, [.int .u8 205, .int .u8 (lo : Int), .int .u8 (hi : Int)]) :: l) 1000000) :=
  box_at pc 0 3 [205, lo, hi] _ hpc (by simp) (Lib.hid (reads_own [205, lo, hi] (by simp; omega))) h
theorem lay_three (f a x y z : Nat) (ha : a + 2 < 65536) : lay (bas f) a [x, y, z] a = x ∧ lay (bas f) a [x, y, z] (a + 1) = y ∧ lay (bas f) a [x, y, z] (a + 2) = z := by
  refine ⟨?_, ?_, ?_⟩
  · rw [lay_at _ _ _ _ (by omega) (by omega) (by simp), show (a + 65536 - a) % 65536 = 0 by omega]; rfl
  · rw [lay_at _ _ _ _ (by omega) (by omega) (by simp), show (a + 1 + 65536 - a) % 65536 = 1 by omega]; rfl
  · rw [lay_at _ _ _ _ (by omega) (by omega) (by simp), show (a + 2 + 65536 - a) % 65536 = 2 by omega]; rfl
structure CallsAt (r : Rg) (ad : Nat) (r1 r2 : Rg) : Prop where
  pc1 : r1.pc = ad
  sp1 : r1.sp = r.sp - 2
  pc2 : r2.pc = r.pc + 3
  wz2 : r2.wz = r.pc + 3
  back : ({ r2 with pc := r.pc, r := r.r, wz := r.wz, dl := r.dl } : Rg) = r
theorem calls_go (r : Rg) (u : U) (ad : Nat) (hto : 100 ≤ ad ∧ ad ≤ 28672) (hpc : r.pc ≤ 50) (hsp : 32784 ≤ r.sp) (hsp2 : r.sp < 65536) (hh : r.ht = false) (hpx : r.px = 0)
    (hm : u.m = upd (lay (bas 0) r.pc [205, ad % 256, ad / 256]) ad 201) : stepN r u = 17 ∧ stepN (stepR r u) (stepU r u) = 10 ∧ CallsAt r ad (stepR r u) (stepR (stepR r u) (stepU r u)) := by
  obtain ⟨l0, l1, l2⟩ := lay_three 0 r.pc 205 (ad % 256) (ad / 256) (by omega)
  obtain ⟨e1, e2, e3⟩ := call_once r u ad hpc hsp hsp2 hh hpx (by rw [hm, upd_ne _ _ _ _ (by omega), l0]) (by rw [hm, upd_ne _ _ _ _ (by omega), l1]) (by rw [hm, upd_ne _ _ _ _ (by omega), l2])
  have a1 : (stepR r u).pc = ad := by rw [e2]
  have a2 : (stepR r u).sp = r.sp - 2 := by rw [e2]
  have a3 : (stepR r u).ht = false := by rw [e2]; exact hh
  have a4 : (stepR r u).px = 0 := by rw [e2]; exact hpx
  obtain ⟨f1, f2⟩ := ret_once (stepR r u) (stepU r u) (by omega) a3 a4 (by rw [a1, e3, upd_ne _ _ _ _ (by omega), upd_ne _ _ _ _ (by omega), hm, upd_at])
  have m1 : (stepU r u).m ((stepR r u).sp + 1) = 0 := by rw [a2, e3, upd_ne _ _ _ _ (by omega), show r.sp - 2 + 1 = r.sp - 1 by omega, upd_at]
  have m2 : (stepU r u).m (stepR r u).sp = r.pc + 3 := by rw [a2, e3, upd_at]
  rw [m1, m2, Nat.zero_mul, Nat.zero_add] at f2
  refine ⟨e1, f1, a1, a2, by rw [f2], by rw [f2], ?_⟩
  rw [f2, e2]
  have q : r.sp - 2 + 2 = r.sp := by omega
  show ({ r with sp := r.sp - 2 + 2 } : Rg) = r
  rw [q]
set_option maxRecDepth 100000 in
set_option maxHeartbeats 1600000 in
theorem calls_any (ad : Nat) (hto : ad < 65536) (r : Rg) (hr : r.Fits) (w : World) (hT : Tabs w) : Calls Tryz.prog 11 #[.int .u16 (ad : Int), r.v] w fun e w' => e = .returned (.bool true) ∧ Below w.heap.size w w' := by
  have HT := Lib.hid hT
  have HR := Lib.hid hr
  have hsp2 := hr.sp
  have hpc2 := hr.pc
  obtain ⟨R, HRB⟩ : ∃ R, Hid (r.right = R) := ⟨_, rfl⟩
  clear hT
  by_cases c1 : ad < 100
  · have c1i : decide ((ad : Int) < 100) = true := by simp; omega
    have HM := Lib.hid (Own.start w)
    have tg1 : Hid True := trivial
    go_enter Tryz.func11, Tryz.ntmps11
    go_wp2_with (first
      | ((with_reducible apply own_box HM); exact rfl; (conv => lhs; whnf); exact rfl; exact rfl; (first | (clear tg1 HM; intro w' g1 HM) | (clear tg2 HM; intro w' g2 HM) | (clear tg3 HM; intro w' g3 HM) | (clear tg4 HM; intro w' g4 HM) | (clear HM; intro w' g' HM)); all_goals skip) | ((with_reducible apply own_row HM); exact rfl; exact rfl; exact aggR; (with_reducible first | exact .z | exact .s .z | exact .s (.s .z) | exact .s (.s (.s .z)) | exact .s (.s (.s (.s .z)))); exact rfl; (first | exact Rg.cells_length _ | exact rfl); all_goals skip) | ((with_reducible apply own_get HM); exact rfl; exact rfl; (with_reducible first | exact oneU8 | exact oneU16 | exact oneBool | exact oneInt); (with_reducible first | exact .z | exact .s .z | exact .s (.s .z) | exact .s (.s (.s .z)) | exact .s (.s (.s (.s .z)))); (conv => lhs; whnf); exact rfl; all_goals skip)
      | (go_at_call 16; (with_reducible refine (cpuAlive_any _ (Tabs.own HT HM)).mono ?_); rintro e w' ⟨rfl, hb⟩; replace HM := Lib.hid (HM.out.call hb); clear hb)
      | (go_at_call 17; (with_reducible refine (rrightRegs r _ HRB _).mono ?_); rintro e w' ⟨rfl, hb⟩; replace HM := Lib.hid (HM.out.call hb); clear hb))
    go_ret
    exact ⟨rfl, Own.fin HM⟩
  have c1i : decide ((ad : Int) < 100) = false := by simp; omega
  by_cases c2 : 28672 < ad
  · have c2i : decide ((28672 : Int) < (ad : Int)) = true := by simp; omega
    have HM := Lib.hid (Own.start w)
    have tg1 : Hid True := trivial
    go_enter Tryz.func11, Tryz.ntmps11
    go_wp2_with (first
      | ((with_reducible apply own_box HM); exact rfl; (conv => lhs; whnf); exact rfl; exact rfl; (first | (clear tg1 HM; intro w' g1 HM) | (clear tg2 HM; intro w' g2 HM) | (clear tg3 HM; intro w' g3 HM) | (clear tg4 HM; intro w' g4 HM) | (clear HM; intro w' g' HM)); all_goals skip) | ((with_reducible apply own_row HM); exact rfl; exact rfl; exact aggR; (with_reducible first | exact .z | exact .s .z | exact .s (.s .z) | exact .s (.s (.s .z)) | exact .s (.s (.s (.s .z)))); exact rfl; (first | exact Rg.cells_length _ | exact rfl); all_goals skip) | ((with_reducible apply own_get HM); exact rfl; exact rfl; (with_reducible first | exact oneU8 | exact oneU16 | exact oneBool | exact oneInt); (with_reducible first | exact .z | exact .s .z | exact .s (.s .z) | exact .s (.s (.s .z)) | exact .s (.s (.s (.s .z)))); (conv => lhs; whnf); exact rfl; all_goals skip)
      | (go_at_call 16; (with_reducible refine (cpuAlive_any _ (Tabs.own HT HM)).mono ?_); rintro e w' ⟨rfl, hb⟩; replace HM := Lib.hid (HM.out.call hb); clear hb)
      | (go_at_call 17; (with_reducible refine (rrightRegs r _ HRB _).mono ?_); rintro e w' ⟨rfl, hb⟩; replace HM := Lib.hid (HM.out.call hb); clear hb))
    go_ret
    exact ⟨rfl, Own.fin HM⟩
  have c2i : decide ((28672 : Int) < (ad : Int)) = false := by simp; omega
  cases R
  · skip
    have HM := Lib.hid (Own.start w)
    have tg1 : Hid True := trivial
    go_enter Tryz.func11, Tryz.ntmps11
    go_wp2_with (first
      | ((with_reducible apply own_box HM); exact rfl; (conv => lhs; whnf); exact rfl; exact rfl; (first | (clear tg1 HM; intro w' g1 HM) | (clear tg2 HM; intro w' g2 HM) | (clear tg3 HM; intro w' g3 HM) | (clear tg4 HM; intro w' g4 HM) | (clear HM; intro w' g' HM)); all_goals skip) | ((with_reducible apply own_row HM); exact rfl; exact rfl; exact aggR; (with_reducible first | exact .z | exact .s .z | exact .s (.s .z) | exact .s (.s (.s .z)) | exact .s (.s (.s (.s .z)))); exact rfl; (first | exact Rg.cells_length _ | exact rfl); all_goals skip) | ((with_reducible apply own_get HM); exact rfl; exact rfl; (with_reducible first | exact oneU8 | exact oneU16 | exact oneBool | exact oneInt); (with_reducible first | exact .z | exact .s .z | exact .s (.s .z) | exact .s (.s (.s .z)) | exact .s (.s (.s (.s .z)))); (conv => lhs; whnf); exact rfl; all_goals skip)
      | (go_at_call 16; (with_reducible refine (cpuAlive_any _ (Tabs.own HT HM)).mono ?_); rintro e w' ⟨rfl, hb⟩; replace HM := Lib.hid (HM.out.call hb); clear hb)
      | (go_at_call 17; (with_reducible refine (rrightRegs r _ HRB _).mono ?_); rintro e w' ⟨rfl, hb⟩; replace HM := Lib.hid (HM.out.call hb); clear hb))
    go_ret
    exact ⟨rfl, Own.fin HM⟩
  cases hh : r.ht
  case true =>
    skip
    have HM := Lib.hid (Own.start w)
    have tg1 : Hid True := trivial
    go_enter Tryz.func11, Tryz.ntmps11
    go_wp2_with (first
      | (exact absurd (hh.symm.trans (by with_reducible assumption : r.ht = false)) Bool.noConfusion) | ((with_reducible apply own_box HM); exact rfl; (conv => lhs; whnf); exact rfl; exact rfl; (first | (clear tg1 HM; intro w' g1 HM) | (clear tg2 HM; intro w' g2 HM) | (clear tg3 HM; intro w' g3 HM) | (clear tg4 HM; intro w' g4 HM) | (clear HM; intro w' g' HM)); all_goals skip) | ((with_reducible apply own_row HM); exact rfl; exact rfl; exact aggR; (with_reducible first | exact .z | exact .s .z | exact .s (.s .z) | exact .s (.s (.s .z)) | exact .s (.s (.s (.s .z)))); exact rfl; (first | exact Rg.cells_length _ | exact rfl); all_goals skip) | ((with_reducible apply own_get HM); exact rfl; exact rfl; (with_reducible first | exact oneU8 | exact oneU16 | exact oneBool | exact oneInt); (with_reducible first | exact .z | exact .s .z | exact .s (.s .z) | exact .s (.s (.s .z)) | exact .s (.s (.s (.s .z)))); (conv => lhs; whnf); exact rfl; all_goals skip)
      | (go_at_call 16; (with_reducible refine (cpuAlive_any _ (Tabs.own HT HM)).mono ?_); rintro e w' ⟨rfl, hb⟩; replace HM := Lib.hid (HM.out.call hb); clear hb)
      | (go_at_call 17; (with_reducible refine (rrightRegs r _ HRB _).mono ?_); rintro e w' ⟨rfl, hb⟩; replace HM := Lib.hid (HM.out.call hb); clear hb))
    go_ret
    exact ⟨rfl, Own.fin HM⟩
  by_cases c3 : r.px = 0
  case neg =>
    have c3i : ((r.px : Int) != 0) = true := by simp; omega
    have HM := Lib.hid (Own.start w)
    have tg1 : Hid True := trivial
    go_enter Tryz.func11, Tryz.ntmps11
    go_wp2_with (first
      | (exact absurd (hh.symm.trans (by with_reducible assumption : r.ht = true)) Bool.noConfusion) | ((with_reducible apply own_box HM); exact rfl; (conv => lhs; whnf); exact rfl; exact rfl; (first | (clear tg1 HM; intro w' g1 HM) | (clear tg2 HM; intro w' g2 HM) | (clear tg3 HM; intro w' g3 HM) | (clear tg4 HM; intro w' g4 HM) | (clear HM; intro w' g' HM)); all_goals skip) | ((with_reducible apply own_row HM); exact rfl; exact rfl; exact aggR; (with_reducible first | exact .z | exact .s .z | exact .s (.s .z) | exact .s (.s (.s .z)) | exact .s (.s (.s (.s .z)))); exact rfl; (first | exact Rg.cells_length _ | exact rfl); all_goals skip) | ((with_reducible apply own_get HM); exact rfl; exact rfl; (with_reducible first | exact oneU8 | exact oneU16 | exact oneBool | exact oneInt); (with_reducible first | exact .z | exact .s .z | exact .s (.s .z) | exact .s (.s (.s .z)) | exact .s (.s (.s (.s .z)))); (conv => lhs; whnf); exact rfl; all_goals skip)
      | (go_at_call 16; (with_reducible refine (cpuAlive_any _ (Tabs.own HT HM)).mono ?_); rintro e w' ⟨rfl, hb⟩; replace HM := Lib.hid (HM.out.call hb); clear hb)
      | (go_at_call 17; (with_reducible refine (rrightRegs r _ HRB _).mono ?_); rintro e w' ⟨rfl, hb⟩; replace HM := Lib.hid (HM.out.call hb); clear hb))
    go_ret
    exact ⟨rfl, Own.fin HM⟩
  have c3i : ((r.px : Int) != 0) = false := by simp; omega
  by_cases c4 : r.sp < 32784
  case pos =>
    have c4i : decide ((r.sp : Int) < 32784) = true := decide_eq_true (by omega)
    have HM := Lib.hid (Own.start w)
    have tg1 : Hid True := trivial
    go_enter Tryz.func11, Tryz.ntmps11
    go_wp2_with (first
      | (exact absurd (hh.symm.trans (by with_reducible assumption : r.ht = true)) Bool.noConfusion) | ((with_reducible apply own_box HM); exact rfl; (conv => lhs; whnf); exact rfl; exact rfl; (first | (clear tg1 HM; intro w' g1 HM) | (clear tg2 HM; intro w' g2 HM) | (clear tg3 HM; intro w' g3 HM) | (clear tg4 HM; intro w' g4 HM) | (clear HM; intro w' g' HM)); all_goals skip) | ((with_reducible apply own_row HM); exact rfl; exact rfl; exact aggR; (with_reducible first | exact .z | exact .s .z | exact .s (.s .z) | exact .s (.s (.s .z)) | exact .s (.s (.s (.s .z)))); exact rfl; (first | exact Rg.cells_length _ | exact rfl); all_goals skip) | ((with_reducible apply own_get HM); exact rfl; exact rfl; (with_reducible first | exact oneU8 | exact oneU16 | exact oneBool | exact oneInt); (with_reducible first | exact .z | exact .s .z | exact .s (.s .z) | exact .s (.s (.s .z)) | exact .s (.s (.s (.s .z)))); (conv => lhs; whnf); exact rfl; all_goals skip)
      | (go_at_call 16; (with_reducible refine (cpuAlive_any _ (Tabs.own HT HM)).mono ?_); rintro e w' ⟨rfl, hb⟩; replace HM := Lib.hid (HM.out.call hb); clear hb)
      | (go_at_call 17; (with_reducible refine (rrightRegs r _ HRB _).mono ?_); rintro e w' ⟨rfl, hb⟩; replace HM := Lib.hid (HM.out.call hb); clear hb))
    go_ret
    exact ⟨rfl, Own.fin HM⟩
  have c4i : decide ((r.sp : Int) < 32784) = false := decide_eq_false (by omega)
  by_cases c5 : 50 < r.pc
  case pos =>
    have c5i : decide ((50 : Int) < (r.pc : Int)) = true := by simp; omega
    have HM := Lib.hid (Own.start w)
    have tg1 : Hid True := trivial
    go_enter Tryz.func11, Tryz.ntmps11
    go_wp2_with (first
      | (exact absurd (hh.symm.trans (by with_reducible assumption : r.ht = true)) Bool.noConfusion) | ((with_reducible apply own_box HM); exact rfl; (conv => lhs; whnf); exact rfl; exact rfl; (first | (clear tg1 HM; intro w' g1 HM) | (clear tg2 HM; intro w' g2 HM) | (clear tg3 HM; intro w' g3 HM) | (clear tg4 HM; intro w' g4 HM) | (clear HM; intro w' g' HM)); all_goals skip) | ((with_reducible apply own_row HM); exact rfl; exact rfl; exact aggR; (with_reducible first | exact .z | exact .s .z | exact .s (.s .z) | exact .s (.s (.s .z)) | exact .s (.s (.s (.s .z)))); exact rfl; (first | exact Rg.cells_length _ | exact rfl); all_goals skip) | ((with_reducible apply own_get HM); exact rfl; exact rfl; (with_reducible first | exact oneU8 | exact oneU16 | exact oneBool | exact oneInt); (with_reducible first | exact .z | exact .s .z | exact .s (.s .z) | exact .s (.s (.s .z)) | exact .s (.s (.s (.s .z)))); (conv => lhs; whnf); exact rfl; all_goals skip)
      | (go_at_call 16; (with_reducible refine (cpuAlive_any _ (Tabs.own HT HM)).mono ?_); rintro e w' ⟨rfl, hb⟩; replace HM := Lib.hid (HM.out.call hb); clear hb)
      | (go_at_call 17; (with_reducible refine (rrightRegs r _ HRB _).mono ?_); rintro e w' ⟨rfl, hb⟩; replace HM := Lib.hid (HM.out.call hb); clear hb))
    go_ret
    exact ⟨rfl, Own.fin HM⟩
  have c5i : decide ((50 : Int) < (r.pc : Int)) = false := by simp; omega
  have HM := Lib.hid (Own.start w)
  have tg1 : Hid True := trivial
  have tg2 : Hid True := trivial
  have tg3 : Hid True := trivial
  have tg4 : Hid True := trivial
  obtain ⟨lo, hlo⟩ : ∃ lo : Nat, ad % 256 = lo := ⟨_, rfl⟩
  obtain ⟨hi, hhi⟩ : ∃ hi : Nat, ad / 256 = hi := ⟨_, rfl⟩
  have lo1 : lo < 256 := by omega
  have hi1 : hi < 256 := by omega
  have e1 : (ad : Int) % 256 = (lo : Int) := by omega
  have e2 : (ad : Int) / 256 = (hi : Int) := by omega
  have e3 : (hi : Int) < 256 := by omega
  have HLO := Lib.hid hlo
  have HHI := Lib.hid hhi
  clear hlo hhi
  go_enter Tryz.func11, Tryz.ntmps11
  go_upto_region 6 with (first
    | (exact absurd (hh.symm.trans (by with_reducible assumption : r.ht = true)) Bool.noConfusion) | ((with_reducible apply own_box HM); exact rfl; (conv => lhs; whnf); exact rfl; exact rfl; (first | (clear tg1 HM; intro w' g1 HM) | (clear tg2 HM; intro w' g2 HM) | (clear tg3 HM; intro w' g3 HM) | (clear tg4 HM; intro w' g4 HM) | (clear HM; intro w' g' HM)); all_goals skip) | ((with_reducible apply own_row HM); exact rfl; exact rfl; exact aggR; (with_reducible first | exact .z | exact .s .z | exact .s (.s .z) | exact .s (.s (.s .z)) | exact .s (.s (.s (.s .z)))); exact rfl; (first | exact Rg.cells_length _ | exact rfl); all_goals skip) | ((with_reducible apply own_get HM); exact rfl; exact rfl; (with_reducible first | exact oneU8 | exact oneU16 | exact oneBool | exact oneInt); (with_reducible first | exact .z | exact .s .z | exact .s (.s .z) | exact .s (.s (.s .z)) | exact .s (.s (.s (.s .z)))); (conv => lhs; whnf); exact rfl; all_goals skip)
    | (go_at_call 16; (with_reducible refine (cpuAlive_any _ (Tabs.own HT HM)).mono ?_); rintro e w' ⟨rfl, hb⟩; replace HM := Lib.hid (HM.out.call hb); clear hb)
    | (go_at_call 17; (with_reducible refine (rrightRegs r _ HRB _).mono ?_); rintro e w' ⟨rfl, hb⟩; replace HM := Lib.hid (HM.out.call hb); clear hb)
    | ((with_reducible apply own_made (cs := [.int .u8 205, .int .u8 (lo : Int), .int .u8 (hi : Int)]) (e := 5) (n := 3) HM); exact rfl; exact calls_made lo hi; (focus (go_simp; done)); exact rfl; clear tg2; intro w' g2 HM'; clear HM; have HM := HM'; clear HM'; all_goals skip)
    | (go_at_call 14; (with_reducible refine (box_calls r.pc lo hi (by omega) lo1 hi1 HM).mono ?_); rintro e w' ⟨b, rfl, hB⟩; have HB := hB; clear HM hB))
  obtain ⟨h8, hl, gm, lv, Rr, N, hN, hRow, hO⟩ := Bx.out (n := 999999) HB.out
  have HM := Lib.hid hO
  have H8 := Lib.hid h8
  have HNN := Lib.hid hN
  have HRow := Lib.hid hRow
  have HAD := Lib.hid hto
  have adN : (ad : Int) < (N : Int) := by omega
  clear HB h8 hl hN hRow hO
  go_upto_region 7 with (first
    | ((with_reducible apply own_box HM); exact rfl; (conv => lhs; whnf); exact rfl; exact rfl; (first | (clear tg1 HM; intro w' g1 HM) | (clear tg2 HM; intro w' g2 HM) | (clear tg3 HM; intro w' g3 HM) | (clear tg4 HM; intro w' g4 HM) | (clear HM; intro w' g' HM)); all_goals skip) | ((with_reducible apply own_cell HM); exact rfl; exact rfl; (first | (with_reducible exact oneU8s)); (with_reducible first | exact .z | exact .s .z | exact .s (.s .z) | exact .s (.s (.s .z)) | exact .s (.s (.s (.s .z)))); (focus repeat' (first | with_reducible exact .z | with_reducible apply Drop.s)); exact rfl; all_goals skip) | ((with_reducible apply own_store HM); exact rfl; exact rfl; (conv => lhs; whnf); exact rfl; (with_reducible first | exact .z | exact .s .z | exact .s (.s .z) | exact .s (.s (.s .z)) | exact .s (.s (.s (.s .z)))); (focus repeat' (first | with_reducible exact .z | with_reducible apply Over.p | with_reducible apply Over.s)); (with_reducible first | exact .z | exact .s .z | exact .s (.s .z) | exact .s (.s (.s .z)) | exact .s (.s (.s (.s .z)))); (first | (with_reducible exact (oneU8s).size)); exact rfl; exact rfl; exact rfl; exact rfl; clear HM; intro w' HM; all_goals skip)
    | ((with_reducible apply own_setc HM); exact rfl; exact rfl; exact rfl; exact .s .z; exact mcells_201 _ _; exact .s .z; exact oneU8.size; exact rfl; exact rfl; (rw [mcells_length]; exact HAD.out); exact rfl; clear HM; intro w' HM; all_goals skip))
  have HB : Hid (Bx w w' b ⟨upd (lay (bas 0) r.pc [205, lo, hi]) ad 201, []⟩ [(g2, 5, [.int .u8 205, .int .u8 (lo : Int), .int .u8 (hi : Int)]), (g1, 25, r.cells)] 999999) :=
    Lib.hid (Bx.back (upd_lt H8.out ad 201 (by decide)) (by show 0 + 999999 ≤ 1000000; decide) HNN.out HRow.out (HM.out.perm ((List.perm_append_comm.cons _).cons _)))
  obtain ⟨u, hu⟩ : ∃ u : U, Hid (u = ⟨upd (lay (bas 0) r.pc [205, lo, hi]) ad 201, []⟩) := ⟨_, rfl⟩
  rw [← hu.out] at HB
  clear HM H8 HRow HNN adN
  obtain ⟨c1', c2', CA⟩ := calls_go r u ad (by omega) (by omega) (by omega) hsp2 hh c3 (by rw [hu.out, HLO.out, HHI.out])
  obtain ⟨r1, hr1⟩ : ∃ x, Hid (stepR r u = x) := ⟨_, rfl⟩
  obtain ⟨u1, hu1⟩ : ∃ x, Hid (stepU r u = x) := ⟨_, rfl⟩
  rw [hr1.out, hu1.out] at c2' CA
  obtain ⟨r2, hr2⟩ : ∃ x, Hid (stepR r1 u1 = x) := ⟨_, rfl⟩
  obtain ⟨u2, hu2⟩ : ∃ x, Hid (stepU r1 u1 = x) := ⟨_, rfl⟩
  rw [hr2.out] at CA
  have K1 := Lib.hid c1'
  have K2 := Lib.hid c2'
  have f1 : ((r1.pc : Int) == (ad : Int)) = true := by rw [CA.pc1]; simp
  have f2 : IntKind.u16.wrap ((r.sp : Int) - 2) = (r1.sp : Int) := by rw [CA.sp1]; show ((r.sp : Int) - 2) % 65536 = _; omega
  have f3 : IntKind.u16.wrap ((r.pc : Int) + 3) = (r2.pc : Int) := by rw [CA.pc2]; show ((r.pc : Int) + 3) % 65536 = _; omega
  have f4 : ((r2.wz : Int) == (r2.pc : Int)) = true := by rw [CA.wz2, CA.pc2]; simp
  have hE : Hid ((((r2.wPC r.pc).wR r.r).wWZ r.wz).wDL r.dl = r) := Lib.hid CA.back
  have ES := Rg.same r
  clear CA c1' c2'
  obtain ⟨HG, X, HX, HM⟩ := HB.out.hid2
  clear HB hu
  have tg5 : Hid True := trivial
  have tg6 : Hid True := trivial
  clear c1i c2i c4i c5i e1 e2 e3
  go_upto_region 14 with (first
    | ((with_reducible apply own_row HM); exact rfl; exact rfl; exact aggR; (with_reducible first | exact .z | exact .s .z | exact .s (.s .z) | exact .s (.s (.s .z)) | exact .s (.s (.s (.s .z)))); exact rfl; (first | exact Rg.cells_length _ | exact rfl); all_goals skip)
    | (go_at_call 13; have hbx : Hid (Bx _ _ b _ [_, _] (999987 + 6 + 6)) := Lib.hid ⟨HG.out, X, HX.out, HM.out⟩; (with_reducible refine (step_to HT HR hr1 K1 hu1 hbx).mono ?_); clear hbx; rintro e w' ⟨rfl, HR1, hB⟩; clear HM HG HX; obtain ⟨HG, X, HX, HM⟩ := hB.out.hid2)
    | (go_at_call 13; have hbx : Hid (Bx _ _ b _ [_, _, _] (999987 + 6)) := Lib.hid ⟨HG.out, X, HX.out, HM.out⟩; (with_reducible refine (step_to HT HR1 hr2 K2 hu2 hbx).mono ?_); clear hbx; rintro e w' ⟨rfl, HR2, hB⟩; clear HM HG HX; obtain ⟨HG, X, HX, HM⟩ := hB.out.hid3)
    | ((with_reducible apply own_alloc HM); exact rfl; (with_reducible exact zeroR); exact rfl; (first | (clear tg1 HM; intro w' g1 HM) | (clear tg2 HM; intro w' g2 HM) | (clear tg3 HM; intro w' g3 HM) | (clear tg4 HM; intro w' g4 HM) | (clear tg5 HM; intro w' g5 HM) | (clear tg6 HM; intro w' g6 HM)); all_goals skip) | ((with_reducible apply own_lay HM); exact rfl; exact rfl; exact rfl; (with_reducible first | exact .z | exact .s .z | exact .s (.s .z) | exact .s (.s (.s .z)) | exact .s (.s (.s (.s .z)))); (with_reducible first | exact .z | exact .s .z | exact .s (.s .z) | exact .s (.s (.s .z)) | exact .s (.s (.s (.s .z)))); exact aggR.size; (first | exact Rg.cells_length _ | exact rfl); (first | exact Rg.cells_length _ | exact rfl); (first | exact Rg.one1 _ | exact rfl); exact rfl; exact rfl; clear HM; intro w' HM; all_goals skip) | ((with_reducible apply own_get HM); exact rfl; exact rfl; (with_reducible first | exact oneU8 | exact oneU16 | exact oneBool | exact oneInt); (with_reducible first | exact .z | exact .s .z | exact .s (.s .z) | exact .s (.s (.s .z)) | exact .s (.s (.s (.s .z)))); (conv => lhs; whnf); exact rfl; all_goals skip)
    | ((with_reducible apply own_setc HM); exact rfl; exact rfl; exact rfl; exact .z; (first | exact rs_pc | exact rs_r | exact rs_wz | exact rs_dl); exact .z; (first | (with_reducible exact oneU8.size) | (with_reducible exact oneU16.size) | (with_reducible exact oneBool.size)); exact rfl; exact rfl; (rw [Rg.cells_length]; decide); exact rfl; clear HM; intro w' HM; all_goals skip))
  rw [hE.out] at HM
  go_wp2_with (first
    | ((with_reducible apply own_row HM); exact rfl; exact rfl; exact aggR; (with_reducible first | exact .z | exact .s .z | exact .s (.s .z) | exact .s (.s (.s .z)) | exact .s (.s (.s (.s .z)))); exact rfl; (first | exact Rg.cells_length _ | exact rfl); all_goals skip) | ((with_reducible apply own_get HM); exact rfl; exact rfl; (with_reducible first | exact oneU8 | exact oneU16 | exact oneBool | exact oneInt); (with_reducible first | exact .z | exact .s .z | exact .s (.s .z) | exact .s (.s (.s .z)) | exact .s (.s (.s (.s .z)))); (conv => lhs; whnf); exact rfl; all_goals skip))
  go_ret
  exact ⟨rfl, Own.fin HM⟩
end Go.Proofs.YtljjgakfnajifaaGreatDoor
namespace Go.Proofs.YtljjgakfnajifaaGreatDoor
open Go.ChangeShapes Go.WideShapes Go.ChangeAt Go.RowKit
section
variable {H : Type} {enc : TypeId × Value → H} {W : World} {fuel : Nat} {y : DataW H × List MemPlace}
theorem kU8 : Tryz.prog.cellsOf 5 = 1 := by kernel_rfl
theorem kU16 : Tryz.prog.cellsOf 23 = 1 := by kernel_rfl
theorem kBool : Tryz.prog.cellsOf 4 = 1 := by kernel_rfl
theorem kAlt : Tryz.prog.cellsOf 22 = 8 := by kernel_rfl
theorem kRegs : Tryz.prog.cellsOf 25 = 29 := by kernel_rfl
theorem bool_open {c : Value} (h : DataW.trod enc Tryz.prog W 0 (fun _ => true) true fuel 4 [c] = some y) : ∃ n, c = .bool n := by
  obtain ⟨a, e, -⟩ := DataW.trod_bool Tryz.underlying4 h
  simp at e; exact ⟨a, e⟩
theorem u8_open {c : Value} (h : DataW.trod enc Tryz.prog W 0 (fun _ => true) true fuel 5 [c] = some y) : ∃ n : Nat, c = .int .u8 (n : Int) ∧ n < 256 := by
  obtain ⟨a, e, -, w⟩ := DataW.trod_int Tryz.underlying5 h
  simp at e
  have := bounds_u8 w
  obtain ⟨n, rfl⟩ := Int.eq_ofNat_of_zero_le this.1
  exact ⟨n, e, by omega⟩
theorem u16_open {c : Value} (h : DataW.trod enc Tryz.prog W 0 (fun _ => true) true fuel 23 [c] = some y) : ∃ n : Nat, c = .int .u16 (n : Int) ∧ n < 65536 := by
  obtain ⟨a, e, -, w⟩ := DataW.trod_int Tryz.underlying23 h
  simp at e
  have := bounds_u16 w
  obtain ⟨n, rfl⟩ := Int.eq_ofNat_of_zero_le this.1
  exact ⟨n, e, by omega⟩
theorem alt_open {a0 a1 a2 a3 a4 a5 a6 a7 : Value} (h : DataW.trod enc Tryz.prog W 0 (fun _ => true) true fuel 22 [a0, a1, a2, a3, a4, a5, a6, a7] = some y) :
    ∃ n0 n1 n2 n3 n4 n5 n6 n7 : Nat, (a0 = .int .u8 (n0 : Int) ∧ a1 = .int .u8 (n1 : Int) ∧ a2 = .int .u8 (n2 : Int) ∧ a3 = .int .u8 (n3 : Int) ∧ a4 = .int .u8 (n4 : Int) ∧ a5 = .int .u8 (n5 : Int) ∧ a6 = .int .u8 (n6 : Int) ∧ a7 = .int .u8 (n7 : Int)) ∧ n0 < 256 ∧ n1 < 256 ∧ n2 < 256 ∧ n3 < 256 ∧ n4 < 256 ∧ n5 < 256 ∧ n6 < 256 ∧ n7 < 256 := by
  obtain ⟨xs, m, rfl, -, hlen, hn, hel⟩ := DataW.trod_array Tryz.underlying22 h
  match xs, hn, hel with
  | [x0, x1, x2, x3, x4, x5, x6, x7], _, hel =>
    have h0 := hel 0 (by decide)
    have h1 := hel 1 (by decide)
    have h2 := hel 2 (by decide)
    have h3 := hel 3 (by decide)
    have h4 := hel 4 (by decide)
    have h5 := hel 5 (by decide)
    have h6 := hel 6 (by decide)
    have h7 := hel 7 (by decide)
    simp [kU8] at h0 h1 h2 h3 h4 h5 h6 h7
    obtain ⟨n0, rfl, b0⟩ := u8_open h0
    obtain ⟨n1, rfl, b1⟩ := u8_open h1
    obtain ⟨n2, rfl, b2⟩ := u8_open h2
    obtain ⟨n3, rfl, b3⟩ := u8_open h3
    obtain ⟨n4, rfl, b4⟩ := u8_open h4
    obtain ⟨n5, rfl, b5⟩ := u8_open h5
    obtain ⟨n6, rfl, b6⟩ := u8_open h6
    obtain ⟨n7, rfl, b7⟩ := u8_open h7
    exact ⟨n0, n1, n2, n3, n4, n5, n6, n7, ⟨rfl, rfl, rfl, rfl, rfl, rfl, rfl, rfl⟩, b0, b1, b2, b3, b4, b5, b6, b7⟩
set_option maxRecDepth 100000 in
theorem regs_cells {cs : List Value} (h : DataW.trod enc Tryz.prog W 0 (fun _ => true) true fuel 25 cs = some y) : ∃ r : Rg, cs = r.cells ∧ r.Fits := by
  obtain ⟨xs, n, -, -, hl, hxs, hf⟩ := DataW.trod_struct Tryz.underlying25 h
  rw [kRegs] at hl
  match cs, hl, xs, hxs with
  | [c0, c1, c2, c3, c4, c5, c6, c7, c8, c9, c10, c11, c12, c13, c14, c15, c16, c17, c18, c19, c20, c21, c22, c23, c24, c25, c26, c27, c28], _, [y0, y1, y2, y3, y4, y5, y6, y7, y8, y9, y10, y11, y12, y13, y14, y15, y16, y17, y18, y19, y20, y21], _ =>
    have h0 := hf 0 _ rfl
    simp [kU8] at h0
    have h1 := hf 1 _ rfl
    simp [kU8] at h1
    have h2 := hf 2 _ rfl
    simp [kU8] at h2
    have h3 := hf 3 _ rfl
    simp [kU8] at h3
    have h4 := hf 4 _ rfl
    simp [kU8] at h4
    have h5 := hf 5 _ rfl
    simp [kU8] at h5
    have h6 := hf 6 _ rfl
    simp [kU8] at h6
    have h7 := hf 7 _ rfl
    simp [kU8] at h7
    have h8 := hf 8 _ rfl
    simp [kAlt] at h8
    have h9 := hf 9 _ rfl
    simp [kU16] at h9
    have h10 := hf 10 _ rfl
    simp [kU16] at h10
    have h11 := hf 11 _ rfl
    simp [kU16] at h11
    have h12 := hf 12 _ rfl
    simp [kU16] at h12
    have h13 := hf 13 _ rfl
    simp [kU16] at h13
    have h14 := hf 14 _ rfl
    simp [kU8] at h14
    have h15 := hf 15 _ rfl
    simp [kU8] at h15
    have h16 := hf 16 _ rfl
    simp [kU8] at h16
    have h17 := hf 17 _ rfl
    simp [kU8] at h17
    have h18 := hf 18 _ rfl
    simp [kBool] at h18
    have h19 := hf 19 _ rfl
    simp [kBool] at h19
    have h20 := hf 20 _ rfl
    simp [kBool] at h20
    have h21 := hf 21 _ rfl
    simp [kBool] at h21
    clear hf
    obtain ⟨n0, rfl, b0⟩ := u8_open h0
    obtain ⟨n1, rfl, b1⟩ := u8_open h1
    obtain ⟨n2, rfl, b2⟩ := u8_open h2
    obtain ⟨n3, rfl, b3⟩ := u8_open h3
    obtain ⟨n4, rfl, b4⟩ := u8_open h4
    obtain ⟨n5, rfl, b5⟩ := u8_open h5
    obtain ⟨n6, rfl, b6⟩ := u8_open h6
    obtain ⟨n7, rfl, b7⟩ := u8_open h7
    obtain ⟨n8, n9, n10, n11, n12, n13, n14, n15, ⟨rfl, rfl, rfl, rfl, rfl, rfl, rfl, rfl⟩, b8, b9, b10, b11, b12, b13, b14, b15⟩ := alt_open h8
    obtain ⟨n16, rfl, b16⟩ := u16_open h9
    obtain ⟨n17, rfl, b17⟩ := u16_open h10
    obtain ⟨n18, rfl, b18⟩ := u16_open h11
    obtain ⟨n19, rfl, b19⟩ := u16_open h12
    obtain ⟨n20, rfl, b20⟩ := u16_open h13
    obtain ⟨n21, rfl, b21⟩ := u8_open h14
    obtain ⟨n22, rfl, b22⟩ := u8_open h15
    obtain ⟨n23, rfl, b23⟩ := u8_open h16
    obtain ⟨n24, rfl, b24⟩ := u8_open h17
    obtain ⟨n25, rfl⟩ := bool_open h18
    obtain ⟨n26, rfl⟩ := bool_open h19
    obtain ⟨n27, rfl⟩ := bool_open h20
    obtain ⟨n28, rfl⟩ := bool_open h21
    exact ⟨⟨n0, n1, n2, n3, n4, n5, n6, n7, n8, n9, n10, n11, n12, n13, n14, n15, n16, n17, n18, n19, n20, n21, n22, n23, n24, n25, n26, n27, n28⟩, rfl, ⟨b0, b1, b2, b3, b4, b5, b6, b7, b8, b9, b10, b11, b12, b13, b14, b15, b16, b17, b18, b19, b20, b21, b22, b23, b24⟩⟩
end
set_option maxRecDepth 100000 in
theorem regs_in {H : Type} {enc : TypeId × Value → H} {W : World} {b0 : Nat} {v : Value} {d : DataW H} {q : List MemPlace} (hv : Value.okWide Tryz.prog W .any b0 25 v) (h : DataW.Trod enc Tryz.prog W 0 (fun _ => true) true 25 v d q) :
    ∃ r : Rg, v = r.v ∧ r.Fits := by
  obtain ⟨cs, rfl, hsz⟩ := okWide_struct Tryz.underlying25 hv
  obtain ⟨fuel, hf⟩ := h
  obtain ⟨r, e, hF⟩ := regs_cells hf
  refine ⟨r, ?_, hF⟩
  obtain ⟨l⟩ := cs
  simp [Value.cells] at e
  rw [e]
end Go.Proofs.YtljjgakfnajifaaGreatDoor
namespace Go.Proofs.YtljjgakfnajifaaGreatDoor.cpuCalls
open Go.ChangeShapes Go.WideShapes Go.ChangeAt Go.RowKit
theorem own : ownKnob Tryz.prog.godebug = none := by kernel_rfl
theorem door_met (os : Os) (args : Array Value) : laidMetH Tryz.prog Rows.cpuCallsRow.laid ((World.doorLaid Tryz.prog 400 os).forCall (fun _ _ => 0) ⟨#[], args, []⟩).memory :=
  laidMetH_of_parts3 (fuel := 8) (laidMet_of_run' 8 (by kernel_rfl) (by kernel_rfl)) (by kernel_rfl) (by kernel_rfl)
theorem laidOut : laidOutB Tryz.prog = true := by kernel_rfl
set_option maxRecDepth 100000 in
set_option maxHeartbeats 6400000 in
theorem lifted (os : Os) (started : os.Started) (H : Type) (enc : TypeId × Value → H) :
    ReturnsInHanded {} Tryz.checked os 11 .any (fun w args => (Rows.cpuCallsSpec.pre enc Tryz.prog Tryz.f11 [] false w args ∧ laidMetH Tryz.prog Rows.cpuCallsRow.laid w) ∧ sizedMet enc Tryz.prog Tryz.f11 (OpenSpec.ofChange Rows.cpuCallsSpec) false w args) (Rows.cpuCallsSpec.post enc Tryz.prog Tryz.f11 false true false false) := by
  refine returnsInHanded_of_change_and (C := Tryz.checked) (X := fun w _ => laidMetH Tryz.prog Rows.cpuCallsRow.laid w) (fun _ _ _ hh h => h.of_heap hh) own started (by kernel_rfl) Tryz.func11
    (ChangeSpec.witness_shaped (enc := enc) (C := Tryz.checked) (os := os) (X := fun w _ => laidMetH Tryz.prog Rows.cpuCallsRow.laid w) false (World.doorLaid Tryz.prog 400 os) #[.int .u16 0, .agg #[.int .u8 0, .int .u8 0, .int .u8 0, .int .u8 0, .int .u8 0, .int .u8 0, .int .u8 0, .int .u8 0, .int .u8 0, .int .u8 0, .int .u8 0, .int .u8 0, .int .u8 0, .int .u8 0, .int .u8 0, .int .u8 0, .int .u16 0, .int .u16 0, .int .u16 0, .int .u16 0, .int .u16 0, .int .u8 0, .int .u8 0, .int .u8 0, .int .u8 0, .bool false, .bool false, .bool false, .bool false]] 8 rfl (World.shaped_of_RefB (by kernel_rfl) (by kernel_rfl)) (by kernel_rfl) (by kernel_rfl) (by kernel_rfl) (door_met os _)) ?_
  intro W base args ds gs before hval0 hW _ _ hL _
  have hT := tabs_of hL
  have hval : ∀ (j : Nat) t v, Tryz.f11.params[j]? = some t → args[j]? = some v → Value.okWide Tryz.prog W .any base t v := hval0
  have hW' := hW
  obtain ⟨p, q, hA0, hV, rfl, hfz, hnd⟩ := hW
  have hA : DataW.TrodAll enc Tryz.prog W 0 (fun _ => true) true Tryz.f11.params.toList args.toList ds p := hA0
  rw [Tryz.params11] at hA hval
  obtain ⟨v0, vs0, d0, ds0, p0, q0, hargs, rfl, rfl, h0, r0⟩ := trodAll_cons hA
  obtain ⟨v1, vs1, d1, ds1, p1, q1, rfl, rfl, rfl, h1, r1⟩ := trodAll_cons r0
  obtain ⟨rfl, rfl, rfl⟩ := trodAll_nil r1
  obtain rfl : args = #[v0, v1] := by cases args; simp_all
  obtain ⟨rfl, rfl⟩ := trodVars_none hV
  have k0 := h0
  have lt0 : ∀ x ∈ p0, x.block < W.heap.size := by obtain ⟨m, hm⟩ := k0; exact DataW.trod_lt m _ _ _ hm
  have k1 := h1
  have lt1 : ∀ x ∈ p1, x.block < W.heap.size := by obtain ⟨m, hm⟩ := k1; exact DataW.trod_lt m _ _ _ hm
  obtain ⟨x0, rfl, rfl, rfl, w0⟩ := open_int Tryz.underlying23 (hval 0 23 v0 rfl rfl) h0
  have b0 := bounds_u16 w0
  obtain ⟨n0, rfl⟩ := Int.eq_ofNat_of_zero_le b0.1
  obtain ⟨r, rfl, hr⟩ := regs_in (hval 1 25 v1 rfl rfl) h1
  clear hA0 hval0
  refine ((calls_any n0 (by omega) r hr W hT)).mono fun e W' ⟨he, bel⟩ => ?_
  subst he
  exact ⟨_, rfl, _, _, _, [], _, [], hW', trodAll_mk1 (shut_bool Tryz.underlying4 _), (trodAll_cons_mk (Below.trod laidOut (by kernel_rfl) (of_decide_eq_true (by kernel_rfl)) k0 bel lt0) (trodAll_cons_mk (Below.trod laidOut (by kernel_rfl) (of_decide_eq_true (by kernel_rfl)) k1 bel lt1) trodAll_mk0)), rfl, bel.frame _, fun h => by cases h⟩
theorem over : Rows.cpuCallsRow.holds Tryz.pinned (OpenSpec.ofChange Rows.cpuCallsSpec) :=
  OpenClaim.holds_of_wide 11 Tryz.f11 rfl rfl rfl rfl rfl rfl rfl ⟨rfl, rfl, rfl, rfl, rfl⟩ rfl rfl rfl rfl rfl (by kernel_rfl) Tryz.func11 (by kernel_rfl)
    (of_decide_eq_true (by kernel_rfl)) (by unfold Func.isWrapper; first | (rw [if_pos (by decide +kernel)]; kernel_rfl) | (rw [if_neg (by decide +kernel)]; exact ⟨rfl, rfl⟩))
    (fun os started H enc _ => lifted os started H enc)
theorem proved : Rows.CpuCallsCardSaid :=
  Claim7.holds_tied_plain_at .later [] [.data, .data] true _ false
    over (fun _ h => by cases h) (by kernel_rfl) (fun _ h => by cases h) cpuCalls_row_tie rfl ⟨rfl, rfl⟩ (by kernel_rfl) rfl
    (fun f fn hf hfn => by
      obtain rfl : f = 11 := Option.some.inj ((show Tryz.prog.funcNamed "joystick/joysticklaw12.CpuCalls" = some 11 by kernel_rfl).symm.trans hf) |>.symm
      obtain rfl : fn = Tryz.f11 := (Option.some.inj (Tryz.func11.symm.trans hfn)).symm
      exact ⟨by kernel_rfl, fun j t ht => by
        rw [Tryz.params11] at ht
        have hm : t ∈ [23, 25] := by simpa using Array.mem_of_getElem? ht
        have hall : ([23, 25].all fun u => !Tryz.prog.wantsStandIn u) = true := by kernel_rfl
        exact (show Tryz.prog.wantsStandIn t = false by simpa using List.all_eq_true.1 hall t hm)⟩)
    (by kernel_rfl)
end Go.Proofs.YtljjgakfnajifaaGreatDoor.cpuCalls
