import Derived.Test.YtljjgakfnajifaaGreatDoorZBase
import Derived.Test.YtljjgakfnajifaaGreatDoorZCpuRl
import Derived.Test.YtljjgakfnajifaaGreatDoorZCpuFl
import Derived.Test.YtljjgakfnajifaaGreatDoorZCpuAw
import Derived.Deep.Cut
import Derived.Deep.CutRange
namespace Go.Proofs.YtljjgakfnajifaaGreatDoor
open Go.RowKit
set_option maxRecDepth 100000 in
set_option maxHeartbeats 1600000 in
theorem rrightRegs (r : Rg) (b : Bool) (hb : Hid (r.right = b)) (w : World) : Calls Tryz.prog 17 #[r.v] w fun e w' => e = .returned (.bool b) ∧ Below w.heap.size w w' := by
  by_cases h0 : (r.im : Int) < 3
  · have h0' : r.im ≤ 2 := by omega
    rcases (show r.px = 0 ∨ r.px = 221 ∨ r.px = 253 ∨ (¬ r.px = 0 ∧ ¬ r.px = 221 ∧ ¬ r.px = 253) by omega) with h1 | h1 | h1 | ⟨h1, h2, h3⟩
    · have e : b = true := by rw [← hb.out]; simp [Rg.right, h0', h1]
      clear hb h0'
      obtain ⟨a, f, b, c, d, e1, h, l, x0, x1, x2, x3, x4, x5, x6, x7, ix, iy, sp, pc, wz, i, r, im, px, q1, q2, ht, dl⟩ := r
      simp only at h1 h0
      subst e h1
      have HM := Lib.hid (Own.start w)
      have tg1 : Hid True := trivial
      go_enter Tryz.func17, Tryz.ntmps17
      go_upto_region 1 with (first | ((with_reducible apply own_box HM); exact rfl; (conv => lhs; whnf); exact rfl; exact rfl; (first | (clear tg1 HM; intro w' g1 HM) | (clear tg2 HM; intro w' g2 HM) | (clear tg3 HM; intro w' g3 HM) | (clear tg4 HM; intro w' g4 HM) | (clear HM; intro w' g' HM)); all_goals skip))
      (refine own_inorder HM ?_; (try simp only [Act.put, List.setIfInBounds_toArray, List.set_cons_zero, List.set_cons_succ]); repeat ((fail_if_success (with_reducible refine wpQuiet_nil ?_)); first | go_big_quiet_skip | (go_big_quiet_want; first | ((with_reducible apply quiet_row); exact rfl; exact aggR; (with_reducible first | exact .z | exact .s .z | exact .s (.s .z) | exact .s (.s (.s .z)) | exact .s (.s (.s (.s .z)))); (first | exact Rg.cells_length _ | exact rfl); go_big_quiet_op; go_big_quiet_on) | ((with_reducible apply quiet_get); exact rfl; (first | (with_reducible exact oneU8) | (with_reducible exact oneU16) | (with_reducible exact oneBool)); (with_reducible first | exact .z | exact .s .z | exact .s (.s .z) | exact .s (.s (.s .z)) | exact .s (.s (.s (.s .z)))); exact rfl; go_big_quiet_op; go_big_quiet_on) | ((with_reducible apply quiet_load); exact rfl; (with_reducible exact aggAlt); (with_reducible first | exact .z | exact .s .z | exact .s (.s .z) | exact .s (.s (.s .z)) | exact .s (.s (.s (.s .z)))); exact Rg.altDrop _; exact Rg.altTake _; go_big_quiet_op; go_big_quiet_on) | (go_big_quiet_op; go_big_quiet_on) | (go_big_quiet_op; refine ⟨_, fun _ _ => rfl, ?_⟩; go_big_quiet_on))))
      refine wpQuiet_nil ?_
      intro w' HM'
      clear HM; have HM := HM'; clear HM'
      go_wp2_with fail
      go_ret
      exact ⟨rfl, Own.fin HM⟩
    · have e : b = true := by rw [← hb.out]; simp [Rg.right, h0', h1]
      have h4 : ((r.px : Int) == 0) = false := by rw [h1]; rfl
      have h5 : ((r.px : Int) == 221) = true := by rw [h1]; rfl
      subst e
      have HM := Lib.hid (Own.start w)
      have tg1 : Hid True := trivial
      go_enter Tryz.func17, Tryz.ntmps17
      go_upto_region 1 with (first | ((with_reducible apply own_box HM); exact rfl; (conv => lhs; whnf); exact rfl; exact rfl; (first | (clear tg1 HM; intro w' g1 HM) | (clear tg2 HM; intro w' g2 HM) | (clear tg3 HM; intro w' g3 HM) | (clear tg4 HM; intro w' g4 HM) | (clear HM; intro w' g' HM)); all_goals skip))
      (refine own_inorder HM ?_; (try simp only [Act.put, List.setIfInBounds_toArray, List.set_cons_zero, List.set_cons_succ]); repeat ((fail_if_success (with_reducible refine wpQuiet_nil ?_)); first | go_big_quiet_skip | (go_big_quiet_want; first | ((with_reducible apply quiet_row); exact rfl; exact aggR; (with_reducible first | exact .z | exact .s .z | exact .s (.s .z) | exact .s (.s (.s .z)) | exact .s (.s (.s (.s .z)))); (first | exact Rg.cells_length _ | exact rfl); go_big_quiet_op; go_big_quiet_on) | ((with_reducible apply quiet_get); exact rfl; (first | (with_reducible exact oneU8) | (with_reducible exact oneU16) | (with_reducible exact oneBool)); (with_reducible first | exact .z | exact .s .z | exact .s (.s .z) | exact .s (.s (.s .z)) | exact .s (.s (.s (.s .z)))); exact rfl; go_big_quiet_op; go_big_quiet_on) | ((with_reducible apply quiet_load); exact rfl; (with_reducible exact aggAlt); (with_reducible first | exact .z | exact .s .z | exact .s (.s .z) | exact .s (.s (.s .z)) | exact .s (.s (.s (.s .z)))); exact Rg.altDrop _; exact Rg.altTake _; go_big_quiet_op; go_big_quiet_on) | (go_big_quiet_op; go_big_quiet_on) | (go_big_quiet_op; refine ⟨_, fun _ _ => rfl, ?_⟩; go_big_quiet_on))))
      refine wpQuiet_nil ?_
      intro w' HM'
      clear HM; have HM := HM'; clear HM'
      go_wp2_with fail
      go_ret
      exact ⟨rfl, Own.fin HM⟩
    · have e : b = true := by rw [← hb.out]; simp [Rg.right, h0', h1]
      have h4 : ((r.px : Int) == 0) = false := by rw [h1]; rfl
      have h5 : ((r.px : Int) == 221) = false := by rw [h1]; rfl
      have h6 : ((r.px : Int) == 253) = true := by rw [h1]; rfl
      subst e
      have HM := Lib.hid (Own.start w)
      have tg1 : Hid True := trivial
      go_enter Tryz.func17, Tryz.ntmps17
      go_upto_region 1 with (first | ((with_reducible apply own_box HM); exact rfl; (conv => lhs; whnf); exact rfl; exact rfl; (first | (clear tg1 HM; intro w' g1 HM) | (clear tg2 HM; intro w' g2 HM) | (clear tg3 HM; intro w' g3 HM) | (clear tg4 HM; intro w' g4 HM) | (clear HM; intro w' g' HM)); all_goals skip))
      (refine own_inorder HM ?_; (try simp only [Act.put, List.setIfInBounds_toArray, List.set_cons_zero, List.set_cons_succ]); repeat ((fail_if_success (with_reducible refine wpQuiet_nil ?_)); first | go_big_quiet_skip | (go_big_quiet_want; first | ((with_reducible apply quiet_row); exact rfl; exact aggR; (with_reducible first | exact .z | exact .s .z | exact .s (.s .z) | exact .s (.s (.s .z)) | exact .s (.s (.s (.s .z)))); (first | exact Rg.cells_length _ | exact rfl); go_big_quiet_op; go_big_quiet_on) | ((with_reducible apply quiet_get); exact rfl; (first | (with_reducible exact oneU8) | (with_reducible exact oneU16) | (with_reducible exact oneBool)); (with_reducible first | exact .z | exact .s .z | exact .s (.s .z) | exact .s (.s (.s .z)) | exact .s (.s (.s (.s .z)))); exact rfl; go_big_quiet_op; go_big_quiet_on) | ((with_reducible apply quiet_load); exact rfl; (with_reducible exact aggAlt); (with_reducible first | exact .z | exact .s .z | exact .s (.s .z) | exact .s (.s (.s .z)) | exact .s (.s (.s (.s .z)))); exact Rg.altDrop _; exact Rg.altTake _; go_big_quiet_op; go_big_quiet_on) | (go_big_quiet_op; go_big_quiet_on) | (go_big_quiet_op; refine ⟨_, fun _ _ => rfl, ?_⟩; go_big_quiet_on))))
      refine wpQuiet_nil ?_
      intro w' HM'
      clear HM; have HM := HM'; clear HM'
      go_wp2_with fail
      go_ret
      exact ⟨rfl, Own.fin HM⟩
    · have e : b = false := by rw [← hb.out]; simp [Rg.right, h1, h2, h3]
      have h4 : ((r.px : Int) == 0) = false := by simp; omega
      have h5 : ((r.px : Int) == 221) = false := by simp; omega
      have h6 : ((r.px : Int) == 253) = false := by simp; omega
      subst e
      have HM := Lib.hid (Own.start w)
      have tg1 : Hid True := trivial
      go_enter Tryz.func17, Tryz.ntmps17
      go_upto_region 1 with (first | ((with_reducible apply own_box HM); exact rfl; (conv => lhs; whnf); exact rfl; exact rfl; (first | (clear tg1 HM; intro w' g1 HM) | (clear tg2 HM; intro w' g2 HM) | (clear tg3 HM; intro w' g3 HM) | (clear tg4 HM; intro w' g4 HM) | (clear HM; intro w' g' HM)); all_goals skip))
      (refine own_inorder HM ?_; (try simp only [Act.put, List.setIfInBounds_toArray, List.set_cons_zero, List.set_cons_succ]); repeat ((fail_if_success (with_reducible refine wpQuiet_nil ?_)); first | go_big_quiet_skip | (go_big_quiet_want; first | ((with_reducible apply quiet_row); exact rfl; exact aggR; (with_reducible first | exact .z | exact .s .z | exact .s (.s .z) | exact .s (.s (.s .z)) | exact .s (.s (.s (.s .z)))); (first | exact Rg.cells_length _ | exact rfl); go_big_quiet_op; go_big_quiet_on) | ((with_reducible apply quiet_get); exact rfl; (first | (with_reducible exact oneU8) | (with_reducible exact oneU16) | (with_reducible exact oneBool)); (with_reducible first | exact .z | exact .s .z | exact .s (.s .z) | exact .s (.s (.s .z)) | exact .s (.s (.s (.s .z)))); exact rfl; go_big_quiet_op; go_big_quiet_on) | ((with_reducible apply quiet_load); exact rfl; (with_reducible exact aggAlt); (with_reducible first | exact .z | exact .s .z | exact .s (.s .z) | exact .s (.s (.s .z)) | exact .s (.s (.s (.s .z)))); exact Rg.altDrop _; exact Rg.altTake _; go_big_quiet_op; go_big_quiet_on) | (go_big_quiet_op; go_big_quiet_on) | (go_big_quiet_op; refine ⟨_, fun _ _ => rfl, ?_⟩; go_big_quiet_on))))
      refine wpQuiet_nil ?_
      intro w' HM'
      clear HM; have HM := HM'; clear HM'
      go_wp2_with fail
      go_ret
      exact ⟨rfl, Own.fin HM⟩
  · have e : b = false := by rw [← hb.out]; simp [Rg.right]; omega
    subst e
    have HM := Lib.hid (Own.start w)
    have tg1 : Hid True := trivial
    go_enter Tryz.func17, Tryz.ntmps17
    go_upto_region 1 with (first | ((with_reducible apply own_box HM); exact rfl; (conv => lhs; whnf); exact rfl; exact rfl; (first | (clear tg1 HM; intro w' g1 HM) | (clear tg2 HM; intro w' g2 HM) | (clear tg3 HM; intro w' g3 HM) | (clear tg4 HM; intro w' g4 HM) | (clear HM; intro w' g' HM)); all_goals skip))
    (refine own_inorder HM ?_; (try simp only [Act.put, List.setIfInBounds_toArray, List.set_cons_zero, List.set_cons_succ]); repeat ((fail_if_success (with_reducible refine wpQuiet_nil ?_)); first | go_big_quiet_skip | (go_big_quiet_want; first | ((with_reducible apply quiet_row); exact rfl; exact aggR; (with_reducible first | exact .z | exact .s .z | exact .s (.s .z) | exact .s (.s (.s .z)) | exact .s (.s (.s (.s .z)))); (first | exact Rg.cells_length _ | exact rfl); go_big_quiet_op; go_big_quiet_on) | ((with_reducible apply quiet_get); exact rfl; (first | (with_reducible exact oneU8) | (with_reducible exact oneU16) | (with_reducible exact oneBool)); (with_reducible first | exact .z | exact .s .z | exact .s (.s .z) | exact .s (.s (.s .z)) | exact .s (.s (.s (.s .z)))); exact rfl; go_big_quiet_op; go_big_quiet_on) | ((with_reducible apply quiet_load); exact rfl; (with_reducible exact aggAlt); (with_reducible first | exact .z | exact .s .z | exact .s (.s .z) | exact .s (.s (.s .z)) | exact .s (.s (.s (.s .z)))); exact Rg.altDrop _; exact Rg.altTake _; go_big_quiet_op; go_big_quiet_on) | (go_big_quiet_op; go_big_quiet_on) | (go_big_quiet_op; refine ⟨_, fun _ _ => rfl, ?_⟩; go_big_quiet_on))))
    refine wpQuiet_nil ?_
    intro w' HM'
    clear HM; have HM := HM'; clear HM'
    go_wp2_with fail
    go_ret
    exact ⟨rfl, Own.fin HM⟩
end Go.Proofs.YtljjgakfnajifaaGreatDoor
namespace Go.Proofs.YtljjgakfnajifaaGreatDoor
open Go.RowKit
theorem reads_none (W0 : World) (l : Blocks) : Hid (Reads W0 l none []) := Lib.hid ⟨fun _ h => by simp at h, fun h => absurd h (by decide)⟩
theorem box_77 {W0 w : World} {l : Blocks} (h : Hid (Own W0 w l)) : Calls Tryz.prog 14 #[.int .u16 0, .slice none 0 0, .int .u8 77] w fun e w' => ∃ b, e = .returned (.pointer (some ⟨b, 0, none⟩)) ∧ Hid (Bx W0 w' b (⟨lay (bas 77) 0 [], []⟩ : U) l 1000000) :=
  box_at 0 77 0 [] none (by decide) (by decide) (reads_none W0 l) h
theorem flat_77 {W0 w : World} {l : Blocks} (h : Hid (Own W0 w l)) : Calls Tryz.prog 18 #[.int .u16 0, .slice none 0 0, .int .u8 77] w fun e w' => ∃ b, e = .returned (.pointer (some ⟨b, 0, none⟩)) ∧ Hid (Fx W0 w' b (⟨lay (bas 77) 0 [], []⟩ : U) l 1000000) :=
  flat_at 0 77 0 [] none (by decide) (by decide) (reads_none W0 l) h
section
variable {W0 w : World} {b n : Nat} {l X2 : Blocks} {r q : Rg} {u u' : U} {k : Nat}
theorem inter_to (pause line : Bool) (hr : Hid r.Fits) (hq : Hid ((Cs.inter ⟨r, 0, u⟩ pause line).r = q)) (hk : Hid (Cs.interC ⟨r, 0, u⟩ pause line = k)) (hu : Hid ((Cs.inter ⟨r, 0, u⟩ pause line).u = u')) (h : Hid (Bx W0 w b u l (n + 4))) :
    Calls Tryz.prog 15 #[r.v, .iface 28 (.pointer (some ⟨b, 0, none⟩)), .bool pause, .bool line] w fun e w' => e = .returned (.tuple #[q.v, .int .i64 (k : Int)]) ∧ Hid (Bx W0 w' b u' l n) := by
  rw [← hq.out, ← hk.out, ← hu.out]
  exact (inter_any r u pause line hr.out h).mono fun _ _ ⟨he, _, hb⟩ => ⟨he, hb⟩
theorem rinter_to (pause line : Bool) (hr : Hid r.Fits) (hq : Hid ((Cs.inter ⟨r, 0, u⟩ pause line).r = q)) (hk : Hid (Cs.interC ⟨r, 0, u⟩ pause line = k)) (hu : Hid ((Cs.inter ⟨r, 0, u⟩ pause line).u = u')) (h : Hid (Fx W0 w b u l (n + 4))) :
    Calls Tryz.prog 21 #[r.v, .pointer (some ⟨b, 0, none⟩), .bool pause, .bool line] w fun e w' => e = .returned (.tuple #[q.v, .int .i64 (k : Int)]) ∧ Hid (Fx W0 w' b u' l n) := by
  rw [← hq.out, ← hk.out, ← hu.out]
  exact rinter_at (s := ⟨r, 0, u⟩) pause line hr.out h
end
theorem own_swap {W0 w : World} {l X Y : Blocks} (h : Own W0 w (l ++ (X ++ Y))) : Own W0 w ((l ++ Y) ++ X) := h.perm (by rw [List.append_assoc]; exact List.perm_append_comm.append_left l)
set_option maxRecDepth 100000 in
set_option maxHeartbeats 1600000 in
theorem inters_any (r : Rg) (pause line : Bool) (hr : r.Fits) (w : World) (hT : Tabs w) : Calls Tryz.prog 6 #[r.v, .bool pause, .bool line] w fun e w' => e = .returned (.bool true) ∧ Below w.heap.size w w' := by
  have HT := Lib.hid hT
  have HR := Lib.hid hr
  obtain ⟨R, HRB⟩ : ∃ R, Hid (r.right = R) := ⟨_, rfl⟩
  clear hT hr
  have HM := Lib.hid (Own.start w)
  have tg1 : Hid True := trivial
  have tg2 : Hid True := trivial
  have tg3 : Hid True := trivial
  obtain ⟨q, HQ⟩ : ∃ q, Hid ((Cs.inter ⟨r, 0, (⟨lay (bas 77) 0 [], []⟩ : U)⟩ pause line).r = q) := ⟨_, rfl⟩
  obtain ⟨k, HK⟩ : ∃ k, Hid (Cs.interC ⟨r, 0, (⟨lay (bas 77) 0 [], []⟩ : U)⟩ pause line = k) := ⟨_, rfl⟩
  obtain ⟨u, HU⟩ : ∃ u, Hid ((Cs.inter ⟨r, 0, (⟨lay (bas 77) 0 [], []⟩ : U)⟩ pause line).u = u) := ⟨_, rfl⟩
  have hsame := Rg.same q
  cases R
  · go_enter Tryz.func6, Tryz.ntmps6
    go_wp2_with (first
      | ((with_reducible apply own_box HM); exact rfl; (conv => lhs; whnf); exact rfl; exact rfl; (first | (clear tg1 HM; intro w' g1 HM) | (clear tg2 HM; intro w' g2 HM) | (clear tg3 HM; intro w' g3 HM) | (clear tg4 HM; intro w' g4 HM) | (clear HM; intro w' g' HM)); all_goals skip) | ((with_reducible apply own_row HM); exact rfl; exact rfl; exact aggR; (with_reducible first | exact .z | exact .s .z | exact .s (.s .z) | exact .s (.s (.s .z)) | exact .s (.s (.s (.s .z)))); exact rfl; (first | exact Rg.cells_length _ | exact rfl); all_goals skip)
      | (go_at_call 16; (with_reducible refine (cpuAlive_any _ (Tabs.own HT HM)).mono ?_); rintro e w' ⟨rfl, hb⟩; replace HM := Lib.hid (HM.out.call hb); clear hb)
      | (go_at_call 17; (with_reducible refine (rrightRegs r _ HRB _).mono ?_); rintro e w' ⟨rfl, hb⟩; replace HM := Lib.hid (HM.out.call hb); clear hb))
    go_ret
    exact ⟨rfl, Own.fin HM⟩
  go_enter Tryz.func6, Tryz.ntmps6
  go_upto_region 6 with (first
    | ((with_reducible apply own_box HM); exact rfl; (conv => lhs; whnf); exact rfl; exact rfl; (first | (clear tg1 HM; intro w' g1 HM) | (clear tg2 HM; intro w' g2 HM) | (clear tg3 HM; intro w' g3 HM) | (clear tg4 HM; intro w' g4 HM) | (clear HM; intro w' g' HM)); all_goals skip) | ((with_reducible apply own_row HM); exact rfl; exact rfl; exact aggR; (with_reducible first | exact .z | exact .s .z | exact .s (.s .z) | exact .s (.s (.s .z)) | exact .s (.s (.s (.s .z)))); exact rfl; (first | exact Rg.cells_length _ | exact rfl); all_goals skip)
    | (go_at_call 16; (with_reducible refine (cpuAlive_any _ (Tabs.own HT HM)).mono ?_); rintro e w' ⟨rfl, hb⟩; replace HM := Lib.hid (HM.out.call hb); clear hb)
    | (go_at_call 17; (with_reducible refine (rrightRegs r _ HRB _).mono ?_); rintro e w' ⟨rfl, hb⟩; replace HM := Lib.hid (HM.out.call hb); clear hb)
    | (go_at_call 14; (with_reducible refine (box_77 HM).mono ?_); rintro e w' ⟨b, rfl, hB⟩; obtain ⟨hg, X, hX, hO⟩ := hB.out; have HG := Lib.hid hg; have HX := Lib.hid hX; have HM' := Lib.hid hO; clear hg hX hO hB HM; have HM := HM'; clear HM')
    | (go_at_call 18; (with_reducible refine (flat_77 HM).mono ?_); rintro e w' ⟨f, rfl, hF⟩; obtain ⟨hg, Y, hY, hO⟩ := hF.out; have HY := Lib.hid hY; rw [List.append_assoc] at hO; have HM' := Lib.hid hO; simp only [List.cons_append, List.nil_append] at HM'; clear hg hY hO hF HM; have HM := HM'; clear HM'))
  go_upto_region 7 with (first
    | ((with_reducible apply own_row HM); exact rfl; exact rfl; exact aggR; (with_reducible first | exact .z | exact .s .z | exact .s (.s .z) | exact .s (.s (.s .z)) | exact .s (.s (.s (.s .z)))); exact rfl; (first | exact Rg.cells_length _ | exact rfl); all_goals skip)
    | (go_at_call 15; have hbx : Hid (Bx _ _ b (⟨lay (bas 77) 0 [], []⟩ : U) ([_] ++ Y) (999996 + 4)) := Lib.hid ⟨HG.out, X, HX.out, own_swap (l := [_]) HM.out⟩; (with_reducible refine (inter_to pause line HR HQ HK HU hbx).mono ?_); clear hbx; rintro e w' ⟨rfl, hB⟩; obtain ⟨hg, X', hX, hO⟩ := hB.out; have HG' := Lib.hid hg; have HX' := Lib.hid hX; rw [List.append_assoc] at hO; have HM' := Lib.hid hO; simp only [List.cons_append, List.nil_append] at HM'; clear hg hX hO hB HM HX; have HM := HM'; have HX := HX'; clear HM' HX')
    | ((with_reducible apply own_alloc HM); exact rfl; (with_reducible exact zeroR); exact rfl; (first | (clear tg2; intro w' g2 HM') | (clear tg3; intro w' g3 HM') | intro w' g' HM'); clear HM; have HM := HM'; clear HM'; all_goals skip)
    | ((with_reducible apply own_lay HM); exact rfl; exact rfl; exact rfl; (with_reducible first | exact .z | exact .s .z | exact .s (.s .z) | exact .s (.s (.s .z)) | exact .s (.s (.s (.s .z)))); (with_reducible first | exact .z | exact .s .z | exact .s (.s .z) | exact .s (.s (.s .z)) | exact .s (.s (.s (.s .z)))); exact aggR.size; (first | exact Rg.cells_length _ | exact rfl); (first | exact Rg.cells_length _ | exact rfl); (first | exact Rg.one1 _ | exact rfl); exact rfl; exact rfl; clear HM; intro w' HM; all_goals skip))
  go_upto_region 8 with (first
    | ((with_reducible apply own_row HM); exact rfl; exact rfl; exact aggR; (with_reducible first | exact .z | exact .s .z | exact .s (.s .z) | exact .s (.s (.s .z)) | exact .s (.s (.s (.s .z)))); exact rfl; (first | exact Rg.cells_length _ | exact rfl); all_goals skip)
    | (go_at_call 21; have hfx : Hid (Fx _ _ f (⟨lay (bas 77) 0 [], []⟩ : U) ([_, _] ++ X') (999996 + 4)) := Lib.hid ⟨HG.out, Y, HY.out, own_swap (l := [_, _]) HM.out⟩; (with_reducible refine (rinter_to pause line HR HQ HK HU hfx).mono ?_); clear hfx; rintro e w' ⟨rfl, hB⟩; obtain ⟨hg, Y', hY, hO⟩ := hB.out; have HY' := Lib.hid hY; rw [List.append_assoc] at hO; have HM' := Lib.hid hO; simp only [List.cons_append, List.nil_append] at HM'; clear hg hY hO hB HM HY; have HM := HM'; have HY := HY'; clear HM' HY')
    | ((with_reducible apply own_alloc HM); exact rfl; (with_reducible exact zeroR); exact rfl; (first | (clear tg2; intro w' g2 HM') | (clear tg3; intro w' g3 HM') | intro w' g' HM'); clear HM; have HM := HM'; clear HM'; all_goals skip)
    | ((with_reducible apply own_lay HM); exact rfl; exact rfl; exact rfl; (with_reducible first | exact .z | exact .s .z | exact .s (.s .z) | exact .s (.s (.s .z)) | exact .s (.s (.s (.s .z)))); (with_reducible first | exact .z | exact .s .z | exact .s (.s .z) | exact .s (.s (.s .z)) | exact .s (.s (.s (.s .z)))); exact aggR.size; (first | exact Rg.cells_length _ | exact rfl); (first | exact Rg.cells_length _ | exact rfl); (first | exact Rg.one1 _ | exact rfl); exact rfl; exact rfl; clear HM; intro w' HM; all_goals skip))
  obtain ⟨gm, lv, R1, hX, hR1⟩ := HX.out
  obtain ⟨gm2, lv2, R2, av, Ra, na, xs, hY, hR2, -⟩ := HY.out
  obtain ⟨a1, c1, rfl, hL1⟩ := log_in hR1
  obtain ⟨a2, c2, rfl, hL2⟩ := log_in hR2
  subst hX hY
  have hu := HG'.out.2
  obtain ⟨m, g⟩ := u
  obtain ⟨n, hn⟩ : ∃ n, Hid (g.length = n) := ⟨_, rfl⟩
  obtain ⟨N, hN⟩ : ∃ N : Nat, Hid (N = 65536) := ⟨_, rfl⟩
  have hg1 : g.length ≤ 1000000 := Nat.le_of_add_right_le hu
  have HG1 := Lib.hid hg1
  obtain ⟨Z, hZ⟩ : ∃ Z : Blocks, Z = (gm, 5, mcells m) :: (R1 ++ (gm2, 5, mcells m) :: (R2 ++ Ra)) := ⟨_, rfl⟩
  have hO := HM.out.perm (l' := (g3, 25, q.cells) :: (g2, 25, q.cells) :: (b, 40, [.slice (some ⟨gm, 0, none⟩) 65536 65536, .slice a1 g.length c1]) :: (f, 44, [.slice (some ⟨gm2, 0, none⟩) 65536 65536, .pointer none, .slice a2 g.length c2, .bool false, .int .u8 0, av]) :: Z ++ [(g1, 25, r.cells)]) (by
    subst hZ
    refine .cons _ (.cons _ ?_)
    refine List.Perm.trans (List.perm_append_comm (l₁ := [_])) ?_
    refine .append_right _ ?_
    refine .cons _ ?_
    refine List.Perm.trans (l₂ := (gm, 5, mcells m) :: (f, 44, [.slice (some ⟨gm2, 0, none⟩) 65536 65536, .pointer none, .slice a2 g.length c2, .bool false, .int .u8 0, av]) :: (R1 ++ (gm2, 5, mcells m) :: (R2 ++ Ra))) (.cons _ List.perm_middle) (.swap _ _ _))
  have HL1 : Hid (∀ W, Own w W ((g3, 25, q.cells) :: (g2, 25, q.cells) :: (b, 40, [.slice (some ⟨gm, 0, none⟩) N N, .slice a1 n c1]) :: (f, 44, [.slice (some ⟨gm2, 0, none⟩) N N, .pointer none, .slice a2 n c2, .bool false, .int .u8 0, av]) :: (Z ++ [(g1, 25, r.cells)])) → LogIn W a1 g) := Lib.hid fun W h => hL1 W fun e he => (h.whole e (by rw [hZ]; simp [he])).2
  have HL2 : Hid (∀ W, Own w W ((g3, 25, q.cells) :: (g2, 25, q.cells) :: (b, 40, [.slice (some ⟨gm, 0, none⟩) N N, .slice a1 n c1]) :: (f, 44, [.slice (some ⟨gm2, 0, none⟩) N N, .pointer none, .slice a2 n c2, .bool false, .int .u8 0, av]) :: (Z ++ [(g1, 25, r.cells)])) → LogIn W a2 g) := Lib.hid fun W h => hL2 W fun e he => (h.whole e (by rw [hZ]; simp [he])).2
  rw [hn.out, ← hN.out] at hO
  simp only [List.cons_append] at hO
  clear HM HX HY hR1 hR2 hL1 hL2 hu hZ hg1 HG HG' HQ HK HU
  have HM := Lib.hid hO
  clear hO
  (refine own_region HM (by kernel_rfl) (by kernel_rfl) ?_; (try simp only [Act.put, List.setIfInBounds_toArray, List.set_cons_zero, List.set_cons_succ]); repeat ((fail_if_success (with_reducible refine wpQuiet_nil ?_)); first | go_big_quiet_skip | (go_big_quiet_want; first | ((with_reducible apply quiet_row); exact rfl; exact aggR; (with_reducible first | exact .z | exact .s .z | exact .s (.s .z) | exact .s (.s (.s .z)) | exact .s (.s (.s (.s .z)))); exact Rg.cells_length _; go_big_quiet_op; go_big_quiet_on) | ((with_reducible apply quiet_cell); exact rfl; (first | (with_reducible exact oneInts) | (with_reducible exact oneU8s)); (with_reducible first | exact .z | exact .s .z | exact .s (.s .z) | exact .s (.s (.s .z)) | exact .s (.s (.s (.s .z)))); (focus repeat' (first | with_reducible exact .z | with_reducible apply Drop.s)); go_big_quiet_op; go_big_quiet_on) | ((with_reducible apply quiet_call); exact fun w => rfl; (focus (go_simp; all_goals with_reducible rfl)); (intro wq HQ; first | exact sameLog_at g HG1.out n hn a1 a2 c1 c2 _ (Lib.hid (HL1.out _ HQ)) (Lib.hid (HL2.out _ HQ))); go_big_quiet_op; go_big_quiet_on) | (go_big_quiet_op; go_big_quiet_on) | (go_big_quiet_op; refine ⟨_, fun _ _ => rfl, ?_⟩; go_big_quiet_on))))
  refine wpQuiet_nil ?_
  intro w' HM'
  clear HM; have HM := HM'; clear HM'
  go_wp2_with fail
  go_ret
  exact ⟨rfl, Own.fin HM⟩
end Go.Proofs.YtljjgakfnajifaaGreatDoor
