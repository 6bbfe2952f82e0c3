/-
  The law RegsSet returns true for any registers and numbers, and writes nothing that was there.
-/
import Derived.Deep.Cut
import Derived.Deep.CutRange
import Derived.Test.YthehpkhhoimecaaRegGet
namespace Go.Proofs.Ythehpkhhoimecaa
open Go.RowKit

theorem aggW : Agg Try.prog 37 2 := ⟨⟨_, Try.underlying37, rfl⟩, by kernel_rfl⟩
theorem Own.swap {W0 w : World} {l : List (Nat × TypeId × List Value)} {x y : Nat × TypeId × List Value} (h : Own W0 w (x :: y :: l)) : Own W0 w (y :: x :: l) := by
  refine ⟨h.below, fun e he => h.whole e (by simp only [List.mem_cons] at he ⊢; rcases he with h | h | h <;> simp [h]), ?_⟩
  obtain ⟨hx, hr⟩ := List.pairwise_cons.1 h.apart
  obtain ⟨hy, hr⟩ := List.pairwise_cons.1 hr
  refine .cons (fun e he => ?_) (.cons (fun e he => hx e (by simp [he])) hr)
  rcases List.mem_cons.1 he with rfl | he
  · exact fun h => hx y (by simp) h.symm
  · exact hy e he
/-- two copies of a value, each in a block of its own, in whatever order they are made -/
theorem Own.sub2 {W0 w : World} {l : List (Nat × TypeId × List Value)} {x y : Nat × TypeId × List Value} (h : Own W0 w (x :: y :: l)) : Own W0 w l := h.sub (.cons _ (.cons _ (List.Sublist.refl _)))
theorem Own.sub1 {W0 w : World} {l : List (Nat × TypeId × List Value)} {x : Nat × TypeId × List Value} (h : Own W0 w (x :: l)) : Own W0 w l := h.sub (.cons _ (List.Sublist.refl _))
set_option maxRecDepth 100000 in
set_option maxHeartbeats 6400000 in
theorem set_k (r : Rg) (hr : r.Fits) (k : Nat) (hk : (k : Int) < 6) (v0 v1 : Nat) (h0 : v0 < 65536) (w : World) : Calls Try.prog 5 #[r.v, .int .i64 (k : Int), .agg #[.int .u16 (v0 : Int), .int .u16 (v1 : Int)]] w fun e w' => e = .returned (.bool true) ∧ Below w.heap.size w w' := by
  obtain ⟨px, hpx⟩ : ∃ px, px = v1 % 256 := ⟨_, rfl⟩
  have e1 : (v1 : Int) % 256 = (px : Int) := by omega
  obtain ⟨y, hy⟩ : ∃ y, y = v0 % 256 := ⟨_, rfl⟩
  have e2 : (v0 : Int) % 256 = (y : Int) := by omega
  have y1 : y < 256 := by omega
  have Y1 := Lib.hid y1
  clear hpx hy y1
  obtain ⟨s1, hs1⟩ : ∃ s1, Hid (r.setPair (k : Int) v0 = s1) := ⟨_, rfl⟩
  obtain ⟨s2, hs2⟩ : ∃ s2, Hid (r.setOne (k : Int) px y = s2) := ⟨_, rfl⟩
  have HLE := Lib.hid (show 0 ≤ (k : Int) ∧ (k : Int) ≤ 7 ∧ ¬ (k : Int) = 6 by omega)
  obtain ⟨L, hL⟩ : ∃ L, Hid (rgLet (k : Int) px = L) := ⟨_, rfl⟩
  have hne : L.toList.isEmpty = false := by rw [← hL.out]; exact let_list (k : Int) px HLE.out
  have HK := Lib.hid (name_at k (by omega))
  have HK7 : Hid (k < 7) := by show _ < 7; omega
  have HR := Lib.hid hr
  clear hr
  have HV : Hid (Unit → v0 < 65536) := fun _ => h0
  clear h0
  have tg3 : Hid True := trivial
  have tg4 : Hid True := trivial
  have HM := Lib.hid (Own.start w)
  have tg1 : Hid True := trivial
  have tg2 : Hid True := trivial
  go_enter Try.func5, Try.ntmps5
  go_upto_region 4 with (first
    | ((with_reducible apply own_box HM); exact rfl; (conv => lhs; whnf); exact rfl; exact rfl; (first | (clear tg1; intro w' g1 HM') | (clear tg2; intro w' g2 HM') | (clear tg3; intro w' g3 HM') | (clear tg4; intro w' g4 HM') | intro w' g' HM'); clear HM; have HM := HM'; clear HM'; all_goals skip) | ((with_reducible apply own_cell HM); exact rfl; exact rfl; (first | (with_reducible exact oneU16)); (first | with_reducible exact .z | with_reducible exact .s .z | with_reducible exact .s (.s .z) | with_reducible exact .s (.s (.s .z)) | with_reducible exact .s (.s (.s (.s .z))) | with_reducible exact .s (.s (.s (.s (.s .z))))); (focus repeat' (first | with_reducible exact .z | with_reducible apply Drop.s)); exact rfl; all_goals skip) | ((with_reducible apply own_store HM); exact rfl; exact rfl; (conv => lhs; whnf); exact rfl; (first | with_reducible exact .z | with_reducible exact .s .z | with_reducible exact .s (.s .z) | with_reducible exact .s (.s (.s .z)) | with_reducible exact .s (.s (.s (.s .z))) | with_reducible exact .s (.s (.s (.s (.s .z))))); (focus repeat' (first | with_reducible exact .z | with_reducible apply Over.p | with_reducible apply Over.s)); (first | with_reducible exact .z | with_reducible exact .s .z | with_reducible exact .s (.s .z) | with_reducible exact .s (.s (.s .z)) | with_reducible exact .s (.s (.s (.s .z))) | with_reducible exact .s (.s (.s (.s (.s .z))))); (first | (with_reducible exact (oneU16).size)); exact rfl; exact rfl; exact rfl; exact rfl; intro w' HM'; clear HM; have HM := HM'; clear HM'; all_goals skip)
    | (go_at_call 7; (with_reducible refine (regsAlive_any _).mono ?_); rintro e w' ⟨rfl, hb⟩; have HM' := Lib.hid (HM.out.call hb); clear HM hb; have HM := HM'; clear HM'))
  go_cut [8, 9] from 16 to 17 (fun s8 s9 wx => ∃ ga gb : Nat, s8 = .pointer (some ⟨ga, 0, none⟩) ∧ s9 = .pointer (some ⟨gb, 0, none⟩) ∧ Hid (Own w wx ((ga, 26, r.cells) :: (gb, 26, r.cells) :: (g2, 37, [.int .u16 (v0 : Int), .int .u16 (v1 : Int)]) :: (g1, 26, r.cells) :: [])))
  case' first =>
    refine wp_region_held (S := fun w' => Own w w' ((g2, 37, [.int .u16 (v0 : Int), .int .u16 (v1 : Int)]) :: (g1, 26, r.cells) :: [])) (by kernel_rfl) ?_
    have HM' := Lib.hid HM.out.drew
    change wpAnyH _ _ _ _ _ _ _ _ (World.drew _)
    clear HM; have HM := HM'; clear HM'
    have HQ := HM.out
    refine h_take (i := 0) (d := 16) (v := .agg r.cells.toArray) rfl rfl (by kernel_rfl) (by kernel_rfl) (by kernel_rfl) (fun _ _ _ h => h) (y_row rfl rfl aggR (.s .z) (Rg.cells_length _) rfl) HQ ?_
    (try simp only [Act.put, List.setIfInBounds_toArray, List.set_cons_zero, List.set_cons_succ])
    refine h_take (i := 1) (d := 17) (v := .agg r.cells.toArray) rfl rfl (by kernel_rfl) (by kernel_rfl) (by kernel_rfl) (fun _ _ _ h => h) (y_row rfl rfl aggR (.s .z) (Rg.cells_length _) rfl) HQ ?_
    (try simp only [Act.put, List.setIfInBounds_toArray, List.set_cons_zero, List.set_cons_succ])
    clear HQ
    refine wpAnyH_all (rs := [2, 3]) (by kernel_rfl) (by simp) ?_
    intro i hi
    simp only [List.mem_cons, List.not_mem_nil, or_false] at hi
    rcases hi with rfl | rfl
    · refine wpOp_of rfl rfl ?_
      refine w_alloc HM rfl zeroR ?_
      intro w1 ga HM1
      refine ⟨HM1.out.sub1, ?_⟩
      change wpAnyH _ _ _ _ _ _ _ (Act.put _ (some 8) _) _
      (try simp only [Act.put, List.setIfInBounds_toArray, List.set_cons_zero, List.set_cons_succ])
      refine wpAnyH_all (rs := [3]) (by kernel_rfl) (by simp) ?_
      intro i hi
      obtain rfl := List.mem_singleton.1 hi
      refine wpOp_of rfl rfl ?_
      refine w_alloc HM1 rfl zeroR ?_
      intro w2 gb HM2
      refine ⟨HM2.out.sub2, ?_⟩
      change wpAnyH _ _ _ _ _ _ _ (Act.put _ (some 9) _) _
      (try simp only [Act.put, List.setIfInBounds_toArray, List.set_cons_zero, List.set_cons_succ])
      refine wpAnyH_all (rs := [4]) (by kernel_rfl) (by simp) ?_
      intro i hi
      obtain rfl := List.mem_singleton.1 hi
      refine wpOp_of rfl rfl ?_
      refine w_lay HM2 rfl rfl rfl (.s .z) (.s .z) aggR.size (Rg.cells_length _) rfl (Rg.one1 _) rfl ?_
      intro w3 HM3
      refine ⟨HM3.out.sub2, ?_⟩
      refine wpAnyH_all (rs := [5]) (by kernel_rfl) (by simp) ?_
      intro i hi
      obtain rfl := List.mem_singleton.1 hi
      refine wpOp_of rfl rfl ?_
      refine w_lay HM3 rfl rfl rfl .z .z aggR.size (Rg.cells_length _) rfl (Rg.one1 _) rfl ?_
      intro w4 HM4
      refine ⟨HM4.out.sub2, ?_⟩
      refine wpAnyH_done (by kernel_rfl) ?_ _
      go_wp2_with fail
      go_meet
      exact ⟨ga, gb, rfl, rfl, Lib.hid HM4.out.swap⟩
    · refine wpOp_of rfl rfl ?_
      refine w_alloc HM rfl zeroR ?_
      intro w1 gb HM1
      refine ⟨HM1.out.sub1, ?_⟩
      change wpAnyH _ _ _ _ _ _ _ (Act.put _ (some 9) _) _
      (try simp only [Act.put, List.setIfInBounds_toArray, List.set_cons_zero, List.set_cons_succ])
      refine wpAnyH_all (rs := [2]) (by kernel_rfl) (by simp) ?_
      intro i hi
      obtain rfl := List.mem_singleton.1 hi
      refine wpOp_of rfl rfl ?_
      refine w_alloc HM1 rfl zeroR ?_
      intro w2 ga HM2
      refine ⟨HM2.out.sub2, ?_⟩
      change wpAnyH _ _ _ _ _ _ _ (Act.put _ (some 8) _) _
      (try simp only [Act.put, List.setIfInBounds_toArray, List.set_cons_zero, List.set_cons_succ])
      refine wpAnyH_all (rs := [4]) (by kernel_rfl) (by simp) ?_
      intro i hi
      obtain rfl := List.mem_singleton.1 hi
      refine wpOp_of rfl rfl ?_
      refine w_lay HM2 rfl rfl rfl .z .z aggR.size (Rg.cells_length _) rfl (Rg.one1 _) rfl ?_
      intro w3 HM3
      refine ⟨HM3.out.sub2, ?_⟩
      refine wpAnyH_all (rs := [5]) (by kernel_rfl) (by simp) ?_
      intro i hi
      obtain rfl := List.mem_singleton.1 hi
      refine wpOp_of rfl rfl ?_
      refine w_lay HM3 rfl rfl rfl (.s .z) (.s .z) aggR.size (Rg.cells_length _) rfl (Rg.one1 _) rfl ?_
      intro w4 HM4
      refine ⟨HM4.out.sub2, ?_⟩
      refine wpAnyH_done (by kernel_rfl) ?_ _
      go_wp2_with fail
      go_meet
      exact ⟨ga, gb, rfl, rfl, HM4⟩
  case' rest =>
    clear HM tg3 tg4
    obtain ⟨g3, g4, rfl, rfl, HM⟩ := hcut
    go_upto_region 6 with fail
    refine wp_region_held (S := fun w' => Own w w' ((g2, 37, [.int .u16 (v0 : Int), .int .u16 (v1 : Int)]) :: (g1, 26, r.cells) :: [])) (by kernel_rfl) ?_
    have HM' := Lib.hid HM.out.drew
    change wpAnyH _ _ _ _ _ _ _ _ (World.drew _)
    clear HM; have HM := HM'; clear HM'
    have HQ := HM.out.sub2
    have hv0 : (v0 : Int) < 65536 := by have := HV.out (); omega
    refine h_take (i := 0) (d := 24) (v := .agg r.cells.toArray) rfl rfl (by kernel_rfl) (by kernel_rfl) (by kernel_rfl) (fun _ _ _ h => h) (y_row rfl rfl aggR (.s .z) (Rg.cells_length _) rfl) HQ ?_
    (try simp only [Act.put, List.setIfInBounds_toArray, List.set_cons_zero, List.set_cons_succ])
    refine h_take (i := 2) (d := 26) (v := .int .i64 (k : Int)) rfl rfl (by kernel_rfl) (by kernel_rfl) (by kernel_rfl) (fun _ _ _ h => h) (y_pure rfl (fun w => by go_simp)) HQ ?_
    (try simp only [Act.put, List.setIfInBounds_toArray, List.set_cons_zero, List.set_cons_succ])
    refine h_take (i := 5) (d := 29) (v := .pointer (some ⟨g2, 0, none⟩)) rfl rfl (by kernel_rfl) (by kernel_rfl) (by kernel_rfl) (fun _ _ _ h => h) (y_pure rfl (fun w => by go_simp)) HQ ?_
    (try simp only [Act.put, List.setIfInBounds_toArray, List.set_cons_zero, List.set_cons_succ])
    refine h_take (i := 6) (d := 30) (v := .int .u16 (v0 : Int)) rfl rfl (by kernel_rfl) (by kernel_rfl) (by kernel_rfl) (fun _ _ _ h => h) (y_cell (g := g2) (off := 0) rfl rfl oneU16 .z .z rfl) HQ ?_
    (try simp only [Act.put, List.setIfInBounds_toArray, List.set_cons_zero, List.set_cons_succ])
    refine h_take (i := 7) (d := 31) (v := .int .i64 (v0 : Int)) rfl rfl (by kernel_rfl) (by kernel_rfl) (by kernel_rfl) (fun _ _ _ h => h) (y_pure rfl (fun w => by go_simp; rw [IntKind.wrap_i64]; omega)) HQ ?_
    (try simp only [Act.put, List.setIfInBounds_toArray, List.set_cons_zero, List.set_cons_succ])
    clear hv0
    refine wpAnyH_all (rs := [1]) (by kernel_rfl) (by simp) ?_
    intro i hi
    obtain rfl := List.mem_singleton.1 hi
    refine wpOp_of rfl rfl ?_
    refine w_call (f := 13) (args := #[]) (fun w => rfl) (by go_simp) ?_
    refine (rnames_at _).mono ?_
    rintro e w2 ⟨g5, hg, rfl, hb2, hW⟩
    have HM2 := Lib.hid (HM.out.plus hb2 hg hW)
    have HQ2 := HM2.out.sub1.sub2
    clear hb2 hg hW HM HQ
    refine ⟨_, rfl, HQ2, ?_⟩
    change wpAnyH _ _ _ _ _ _ _ (Act.put _ (some 25) _) _
    (try simp only [Act.put, List.setIfInBounds_toArray, List.set_cons_zero, List.set_cons_succ])
    refine h_take (i := 3) (d := 27) (v := .pointer (some ⟨g5, k, none⟩)) rfl rfl (by kernel_rfl) (by kernel_rfl) (by kernel_rfl) (fun _ _ _ h => h) (y_pure rfl (fun w => by go_simp)) HQ2 ?_
    (try simp only [Act.put, List.setIfInBounds_toArray, List.set_cons_zero, List.set_cons_succ])
    refine wpAnyH_all (rs := [4]) (by kernel_rfl) (by simp) ?_
    intro i hi
    obtain rfl := List.mem_singleton.1 hi
    refine wpOp_of rfl rfl ?_
    refine w_get HM2 rfl rfl oneStr .z HK.out ?_
    refine ⟨HQ2, ?_⟩
    change wpAnyH _ _ _ _ _ _ _ (Act.put _ (some 28) _) _
    (try simp only [Act.put, List.setIfInBounds_toArray, List.set_cons_zero, List.set_cons_succ])
    refine wpAnyH_all (rs := [8]) (by kernel_rfl) (by simp) ?_
    intro i hi
    obtain rfl := List.mem_singleton.1 hi
    refine wpOp_of rfl rfl ?_
    refine w_call (f := 18) (args := #[r.v, .string (rgName k), .int .i64 (v0 : Int)]) (fun w => rfl) (by go_simp) ?_
    refine (rset_name r k HK7.out v0 (HV.out ()) s1 hs1 _).mono ?_
    rintro e w3 ⟨rfl, hb3⟩
    have HM3 := Lib.hid (HM2.out.call hb3)
    have HQ3 := HQ2.call hb3
    clear hb3 HM2 HQ2
    refine ⟨_, rfl, HQ3, ?_⟩
    change wpAnyH _ _ _ _ _ _ _ (Act.put _ (some 32) _) _
    (try simp only [Act.put, List.setIfInBounds_toArray, List.set_cons_zero, List.set_cons_succ])
    refine wpAnyH_all (rs := [9]) (by kernel_rfl) (by simp) ?_
    intro i hi
    obtain rfl := List.mem_singleton.1 hi
    refine wpOp_of rfl rfl ?_
    refine w_lay HM3 rfl rfl rfl (.s .z) (.s .z) aggR.size (Rg.cells_length _) rfl (Rg.one1 _) rfl ?_
    intro w4 HM4
    refine ⟨HM4.out.sub1.sub2, ?_⟩
    refine wpAnyH_done (by kernel_rfl) ?_ _
    have HM := Lib.hid HM4.out.forget
    clear HM3 HQ3 HM4
    have y2 : (y : Int) < 256 := by have := Y1.out; omega
    go_upto_region 10 with (first
      | ((with_reducible apply own_box HM); exact rfl; (conv => lhs; whnf); exact rfl; exact rfl; (first | (clear tg1; intro w' g1 HM') | (clear tg2; intro w' g2 HM') | (clear tg3; intro w' g3 HM') | (clear tg4; intro w' g4 HM') | intro w' g' HM'); clear HM; have HM := HM'; clear HM'; all_goals skip) | ((with_reducible apply own_cell HM); exact rfl; exact rfl; (first | (with_reducible exact oneU16)); (first | with_reducible exact .z | with_reducible exact .s .z | with_reducible exact .s (.s .z) | with_reducible exact .s (.s (.s .z)) | with_reducible exact .s (.s (.s (.s .z))) | with_reducible exact .s (.s (.s (.s (.s .z))))); (focus repeat' (first | with_reducible exact .z | with_reducible apply Drop.s)); exact rfl; all_goals skip) | ((with_reducible apply own_store HM); exact rfl; exact rfl; (conv => lhs; whnf); exact rfl; (first | with_reducible exact .z | with_reducible exact .s .z | with_reducible exact .s (.s .z) | with_reducible exact .s (.s (.s .z)) | with_reducible exact .s (.s (.s (.s .z))) | with_reducible exact .s (.s (.s (.s (.s .z))))); (focus repeat' (first | with_reducible exact .z | with_reducible apply Over.p | with_reducible apply Over.s)); (first | with_reducible exact .z | with_reducible exact .s .z | with_reducible exact .s (.s .z) | with_reducible exact .s (.s (.s .z)) | with_reducible exact .s (.s (.s (.s .z))) | with_reducible exact .s (.s (.s (.s (.s .z))))); (first | (with_reducible exact (oneU16).size)); exact rfl; exact rfl; exact rfl; exact rfl; intro w' HM'; clear HM; have HM := HM'; clear HM'; all_goals skip)
      | ((with_reducible apply own_row HM); exact rfl; exact rfl; exact aggR; (first | with_reducible exact .z | with_reducible exact .s .z | with_reducible exact .s (.s .z) | with_reducible exact .s (.s (.s .z)) | with_reducible exact .s (.s (.s (.s .z))) | with_reducible exact .s (.s (.s (.s (.s .z))))); exact rfl; (first | exact Rg.cells_length _ | exact rfl); all_goals skip) | ((with_reducible apply own_lay HM); exact rfl; exact rfl; exact rfl; (first | with_reducible exact .z | with_reducible exact .s .z | with_reducible exact .s (.s .z) | with_reducible exact .s (.s (.s .z)) | with_reducible exact .s (.s (.s (.s .z))) | with_reducible exact .s (.s (.s (.s (.s .z))))); (first | with_reducible exact .z | with_reducible exact .s .z | with_reducible exact .s (.s .z) | with_reducible exact .s (.s (.s .z)) | with_reducible exact .s (.s (.s (.s .z))) | with_reducible exact .s (.s (.s (.s (.s .z))))); exact aggR.size; (first | exact Rg.cells_length _ | exact rfl); (first | exact Rg.cells_length _ | exact rfl); (first | exact Rg.one1 _ | exact rfl); exact rfl; exact rfl; intro w' HM'; clear HM; have HM := HM'; clear HM'; all_goals skip)
      | (go_at_call 14; (with_reducible refine (letters_at (k : Int) px _ hL _).mono ?_); rintro e w' ⟨rfl, rfl⟩)
      | (go_at_call 18; (with_reducible refine (rset_let r HR.out (k : Int) px HLE.out L hL y Y1.out s2 hs2 _).mono ?_); rintro e w' ⟨rfl, hb⟩; have HM' := Lib.hid (HM.out.call hb); clear HM hb; have HM := HM'; clear HM'))
    have ESs1 := Rg.same s1
    have ESs2 := Rg.same s2
    (refine own_region HM (by kernel_rfl) (by kernel_rfl) ?_; (try simp only [Act.put, List.setIfInBounds_toArray, List.set_cons_zero, List.set_cons_succ]); repeat ((fail_if_success (with_reducible refine wpQuiet_nil ?_)); first | go_big_quiet_skip | (go_big_quiet_want; first | ((with_reducible apply quiet_row); exact rfl; exact aggR; (first | with_reducible exact .z | with_reducible exact .s .z | with_reducible exact .s (.s .z) | with_reducible exact .s (.s (.s .z)) | with_reducible exact .s (.s (.s (.s .z))) | with_reducible exact .s (.s (.s (.s (.s .z))))); (first | exact Rg.cells_length _ | exact rfl); go_big_quiet_op; go_big_quiet_on) | ((with_reducible apply quiet_get); exact rfl; (first | (with_reducible exact oneU8) | (with_reducible exact oneU16) | (with_reducible exact oneBool)); (first | with_reducible exact .z | with_reducible exact .s .z | with_reducible exact .s (.s .z) | with_reducible exact .s (.s (.s .z)) | with_reducible exact .s (.s (.s (.s .z))) | with_reducible exact .s (.s (.s (.s (.s .z))))); exact rfl; go_big_quiet_op; go_big_quiet_on) | ((with_reducible apply quiet_load); exact rfl; (with_reducible exact aggAlt); (first | with_reducible exact .z | with_reducible exact .s .z | with_reducible exact .s (.s .z) | with_reducible exact .s (.s (.s .z)) | with_reducible exact .s (.s (.s (.s .z))) | with_reducible exact .s (.s (.s (.s (.s .z))))); exact Rg.altDrop _; exact Rg.altTake _; go_big_quiet_op; go_big_quiet_on) | ((with_reducible apply quiet_call); exact fun w => rfl; (focus (go_simp; all_goals with_reducible rfl)); (intro wq HQ; first | (with_reducible exact setPair_at r (k : Int) v0 (HV.out ()) s1 hs1 _) | (with_reducible exact setOne_at r HR.out (k : Int) px y Y1.out s2 hs2 _)); go_big_quiet_op; go_big_quiet_on) | (go_big_quiet_op; go_big_quiet_on) | (go_big_quiet_op; refine ⟨_, fun _ _ => rfl, ?_⟩; go_big_quiet_on))))
    refine wpQuiet_nil ?_
    intro w' HM'
    clear HM; have HM := HM'; clear HM'
    go_wp2_with fail
    go_ret
    exact ⟨rfl, Own.fin HM⟩
set_option maxRecDepth 100000 in
set_option maxHeartbeats 6400000 in
theorem set_6 (r : Rg) (hr : r.Fits) (v0 v1 : Nat) (h0 : v0 < 65536) (w : World) : Calls Try.prog 5 #[r.v, .int .i64 (6 : Int), .agg #[.int .u16 (v0 : Int), .int .u16 (v1 : Int)]] w fun e w' => e = .returned (.bool true) ∧ Below w.heap.size w w' := by
  obtain ⟨px, hpx⟩ : ∃ px, px = v1 % 256 := ⟨_, rfl⟩
  have e1 : (v1 : Int) % 256 = (px : Int) := by omega
  obtain ⟨y, hy⟩ : ∃ y, y = v0 % 256 := ⟨_, rfl⟩
  have e2 : (v0 : Int) % 256 = (y : Int) := by omega
  have y1 : y < 256 := by omega
  have Y1 := Lib.hid y1
  clear hpx hy y1
  obtain ⟨s1, hs1⟩ : ∃ s1, Hid (r.setPair (6 : Int) v0 = s1) := ⟨_, rfl⟩
  obtain ⟨s2, hs2⟩ : ∃ s2, Hid (r.setOne (6 : Int) px y = s2) := ⟨_, rfl⟩
  have hL : Hid (rgLet (6 : Int) px = ⟨#[]⟩) := let_none (6 : Int) px (by omega)
  have hno : ¬ (6 : Int) = 0 ∧ ¬ (6 : Int) = 1 ∧ ¬ (6 : Int) = 2 ∧ ¬ (6 : Int) = 3 ∧ ¬ (6 : Int) = 7 ∧ ¬ (6 : Int) = 4 ∧ ¬ (6 : Int) = 5 := by omega
  have es2 : s2 = r := by rw [← hs2.out, Rg.setOne_no _ _ _ _ hno]
  subst es2
  have HK := Lib.hid (name_at 6 (by omega))
  have HK7 : Hid (6 < 7) := by show _ < 7; omega
  have HR := Lib.hid hr
  clear hr
  have HV : Hid (Unit → v0 < 65536) := fun _ => h0
  clear h0
  have tg3 : Hid True := trivial
  have tg4 : Hid True := trivial
  have HNO := Lib.hid hno
  clear hno
  have HM := Lib.hid (Own.start w)
  have tg1 : Hid True := trivial
  have tg2 : Hid True := trivial
  go_enter Try.func5, Try.ntmps5
  go_upto_region 4 with (first
    | ((with_reducible apply own_box HM); exact rfl; (conv => lhs; whnf); exact rfl; exact rfl; (first | (clear tg1; intro w' g1 HM') | (clear tg2; intro w' g2 HM') | (clear tg3; intro w' g3 HM') | (clear tg4; intro w' g4 HM') | intro w' g' HM'); clear HM; have HM := HM'; clear HM'; all_goals skip) | ((with_reducible apply own_cell HM); exact rfl; exact rfl; (first | (with_reducible exact oneU16)); (first | with_reducible exact .z | with_reducible exact .s .z | with_reducible exact .s (.s .z) | with_reducible exact .s (.s (.s .z)) | with_reducible exact .s (.s (.s (.s .z))) | with_reducible exact .s (.s (.s (.s (.s .z))))); (focus repeat' (first | with_reducible exact .z | with_reducible apply Drop.s)); exact rfl; all_goals skip) | ((with_reducible apply own_store HM); exact rfl; exact rfl; (conv => lhs; whnf); exact rfl; (first | with_reducible exact .z | with_reducible exact .s .z | with_reducible exact .s (.s .z) | with_reducible exact .s (.s (.s .z)) | with_reducible exact .s (.s (.s (.s .z))) | with_reducible exact .s (.s (.s (.s (.s .z))))); (focus repeat' (first | with_reducible exact .z | with_reducible apply Over.p | with_reducible apply Over.s)); (first | with_reducible exact .z | with_reducible exact .s .z | with_reducible exact .s (.s .z) | with_reducible exact .s (.s (.s .z)) | with_reducible exact .s (.s (.s (.s .z))) | with_reducible exact .s (.s (.s (.s (.s .z))))); (first | (with_reducible exact (oneU16).size)); exact rfl; exact rfl; exact rfl; exact rfl; intro w' HM'; clear HM; have HM := HM'; clear HM'; all_goals skip)
    | (go_at_call 7; (with_reducible refine (regsAlive_any _).mono ?_); rintro e w' ⟨rfl, hb⟩; have HM' := Lib.hid (HM.out.call hb); clear HM hb; have HM := HM'; clear HM'))
  go_cut [8, 9] from 16 to 17 (fun s8 s9 wx => ∃ ga gb : Nat, s8 = .pointer (some ⟨ga, 0, none⟩) ∧ s9 = .pointer (some ⟨gb, 0, none⟩) ∧ Hid (Own w wx ((ga, 26, s2.cells) :: (gb, 26, s2.cells) :: (g2, 37, [.int .u16 (v0 : Int), .int .u16 (v1 : Int)]) :: (g1, 26, s2.cells) :: [])))
  case' first =>
    refine wp_region_held (S := fun w' => Own w w' ((g2, 37, [.int .u16 (v0 : Int), .int .u16 (v1 : Int)]) :: (g1, 26, s2.cells) :: [])) (by kernel_rfl) ?_
    have HM' := Lib.hid HM.out.drew
    change wpAnyH _ _ _ _ _ _ _ _ (World.drew _)
    clear HM; have HM := HM'; clear HM'
    have HQ := HM.out
    refine h_take (i := 0) (d := 16) (v := .agg s2.cells.toArray) rfl rfl (by kernel_rfl) (by kernel_rfl) (by kernel_rfl) (fun _ _ _ h => h) (y_row rfl rfl aggR (.s .z) (Rg.cells_length _) rfl) HQ ?_
    (try simp only [Act.put, List.setIfInBounds_toArray, List.set_cons_zero, List.set_cons_succ])
    refine h_take (i := 1) (d := 17) (v := .agg s2.cells.toArray) rfl rfl (by kernel_rfl) (by kernel_rfl) (by kernel_rfl) (fun _ _ _ h => h) (y_row rfl rfl aggR (.s .z) (Rg.cells_length _) rfl) HQ ?_
    (try simp only [Act.put, List.setIfInBounds_toArray, List.set_cons_zero, List.set_cons_succ])
    clear HQ
    refine wpAnyH_all (rs := [2, 3]) (by kernel_rfl) (by simp) ?_
    intro i hi
    simp only [List.mem_cons, List.not_mem_nil, or_false] at hi
    rcases hi with rfl | rfl
    · refine wpOp_of rfl rfl ?_
      refine w_alloc HM rfl zeroR ?_
      intro w1 ga HM1
      refine ⟨HM1.out.sub1, ?_⟩
      change wpAnyH _ _ _ _ _ _ _ (Act.put _ (some 8) _) _
      (try simp only [Act.put, List.setIfInBounds_toArray, List.set_cons_zero, List.set_cons_succ])
      refine wpAnyH_all (rs := [3]) (by kernel_rfl) (by simp) ?_
      intro i hi
      obtain rfl := List.mem_singleton.1 hi
      refine wpOp_of rfl rfl ?_
      refine w_alloc HM1 rfl zeroR ?_
      intro w2 gb HM2
      refine ⟨HM2.out.sub2, ?_⟩
      change wpAnyH _ _ _ _ _ _ _ (Act.put _ (some 9) _) _
      (try simp only [Act.put, List.setIfInBounds_toArray, List.set_cons_zero, List.set_cons_succ])
      refine wpAnyH_all (rs := [4]) (by kernel_rfl) (by simp) ?_
      intro i hi
      obtain rfl := List.mem_singleton.1 hi
      refine wpOp_of rfl rfl ?_
      refine w_lay HM2 rfl rfl rfl (.s .z) (.s .z) aggR.size (Rg.cells_length _) rfl (Rg.one1 _) rfl ?_
      intro w3 HM3
      refine ⟨HM3.out.sub2, ?_⟩
      refine wpAnyH_all (rs := [5]) (by kernel_rfl) (by simp) ?_
      intro i hi
      obtain rfl := List.mem_singleton.1 hi
      refine wpOp_of rfl rfl ?_
      refine w_lay HM3 rfl rfl rfl .z .z aggR.size (Rg.cells_length _) rfl (Rg.one1 _) rfl ?_
      intro w4 HM4
      refine ⟨HM4.out.sub2, ?_⟩
      refine wpAnyH_done (by kernel_rfl) ?_ _
      go_wp2_with fail
      go_meet
      exact ⟨ga, gb, rfl, rfl, Lib.hid HM4.out.swap⟩
    · refine wpOp_of rfl rfl ?_
      refine w_alloc HM rfl zeroR ?_
      intro w1 gb HM1
      refine ⟨HM1.out.sub1, ?_⟩
      change wpAnyH _ _ _ _ _ _ _ (Act.put _ (some 9) _) _
      (try simp only [Act.put, List.setIfInBounds_toArray, List.set_cons_zero, List.set_cons_succ])
      refine wpAnyH_all (rs := [2]) (by kernel_rfl) (by simp) ?_
      intro i hi
      obtain rfl := List.mem_singleton.1 hi
      refine wpOp_of rfl rfl ?_
      refine w_alloc HM1 rfl zeroR ?_
      intro w2 ga HM2
      refine ⟨HM2.out.sub2, ?_⟩
      change wpAnyH _ _ _ _ _ _ _ (Act.put _ (some 8) _) _
      (try simp only [Act.put, List.setIfInBounds_toArray, List.set_cons_zero, List.set_cons_succ])
      refine wpAnyH_all (rs := [4]) (by kernel_rfl) (by simp) ?_
      intro i hi
      obtain rfl := List.mem_singleton.1 hi
      refine wpOp_of rfl rfl ?_
      refine w_lay HM2 rfl rfl rfl .z .z aggR.size (Rg.cells_length _) rfl (Rg.one1 _) rfl ?_
      intro w3 HM3
      refine ⟨HM3.out.sub2, ?_⟩
      refine wpAnyH_all (rs := [5]) (by kernel_rfl) (by simp) ?_
      intro i hi
      obtain rfl := List.mem_singleton.1 hi
      refine wpOp_of rfl rfl ?_
      refine w_lay HM3 rfl rfl rfl (.s .z) (.s .z) aggR.size (Rg.cells_length _) rfl (Rg.one1 _) rfl ?_
      intro w4 HM4
      refine ⟨HM4.out.sub2, ?_⟩
      refine wpAnyH_done (by kernel_rfl) ?_ _
      go_wp2_with fail
      go_meet
      exact ⟨ga, gb, rfl, rfl, HM4⟩
  case' rest =>
    clear HM tg3 tg4
    obtain ⟨g3, g4, rfl, rfl, HM⟩ := hcut
    go_upto_region 6 with fail
    refine wp_region_held (S := fun w' => Own w w' ((g2, 37, [.int .u16 (v0 : Int), .int .u16 (v1 : Int)]) :: (g1, 26, s2.cells) :: [])) (by kernel_rfl) ?_
    have HM' := Lib.hid HM.out.drew
    change wpAnyH _ _ _ _ _ _ _ _ (World.drew _)
    clear HM; have HM := HM'; clear HM'
    have HQ := HM.out.sub2
    have hv0 : (v0 : Int) < 65536 := by have := HV.out (); omega
    refine h_take (i := 0) (d := 24) (v := .agg s2.cells.toArray) rfl rfl (by kernel_rfl) (by kernel_rfl) (by kernel_rfl) (fun _ _ _ h => h) (y_row rfl rfl aggR (.s .z) (Rg.cells_length _) rfl) HQ ?_
    (try simp only [Act.put, List.setIfInBounds_toArray, List.set_cons_zero, List.set_cons_succ])
    refine h_take (i := 2) (d := 26) (v := .int .i64 (6 : Int)) rfl rfl (by kernel_rfl) (by kernel_rfl) (by kernel_rfl) (fun _ _ _ h => h) (y_pure rfl (fun w => by go_simp)) HQ ?_
    (try simp only [Act.put, List.setIfInBounds_toArray, List.set_cons_zero, List.set_cons_succ])
    refine h_take (i := 5) (d := 29) (v := .pointer (some ⟨g2, 0, none⟩)) rfl rfl (by kernel_rfl) (by kernel_rfl) (by kernel_rfl) (fun _ _ _ h => h) (y_pure rfl (fun w => by go_simp)) HQ ?_
    (try simp only [Act.put, List.setIfInBounds_toArray, List.set_cons_zero, List.set_cons_succ])
    refine h_take (i := 6) (d := 30) (v := .int .u16 (v0 : Int)) rfl rfl (by kernel_rfl) (by kernel_rfl) (by kernel_rfl) (fun _ _ _ h => h) (y_cell (g := g2) (off := 0) rfl rfl oneU16 .z .z rfl) HQ ?_
    (try simp only [Act.put, List.setIfInBounds_toArray, List.set_cons_zero, List.set_cons_succ])
    refine h_take (i := 7) (d := 31) (v := .int .i64 (v0 : Int)) rfl rfl (by kernel_rfl) (by kernel_rfl) (by kernel_rfl) (fun _ _ _ h => h) (y_pure rfl (fun w => by go_simp; rw [IntKind.wrap_i64]; omega)) HQ ?_
    (try simp only [Act.put, List.setIfInBounds_toArray, List.set_cons_zero, List.set_cons_succ])
    clear hv0
    refine wpAnyH_all (rs := [1]) (by kernel_rfl) (by simp) ?_
    intro i hi
    obtain rfl := List.mem_singleton.1 hi
    refine wpOp_of rfl rfl ?_
    refine w_call (f := 13) (args := #[]) (fun w => rfl) (by go_simp) ?_
    refine (rnames_at _).mono ?_
    rintro e w2 ⟨g5, hg, rfl, hb2, hW⟩
    have HM2 := Lib.hid (HM.out.plus hb2 hg hW)
    have HQ2 := HM2.out.sub1.sub2
    clear hb2 hg hW HM HQ
    refine ⟨_, rfl, HQ2, ?_⟩
    change wpAnyH _ _ _ _ _ _ _ (Act.put _ (some 25) _) _
    (try simp only [Act.put, List.setIfInBounds_toArray, List.set_cons_zero, List.set_cons_succ])
    refine h_take (i := 3) (d := 27) (v := .pointer (some ⟨g5, 6, none⟩)) rfl rfl (by kernel_rfl) (by kernel_rfl) (by kernel_rfl) (fun _ _ _ h => h) (y_pure rfl (fun w => by go_simp)) HQ2 ?_
    (try simp only [Act.put, List.setIfInBounds_toArray, List.set_cons_zero, List.set_cons_succ])
    refine wpAnyH_all (rs := [4]) (by kernel_rfl) (by simp) ?_
    intro i hi
    obtain rfl := List.mem_singleton.1 hi
    refine wpOp_of rfl rfl ?_
    refine w_get HM2 rfl rfl oneStr .z HK.out ?_
    refine ⟨HQ2, ?_⟩
    change wpAnyH _ _ _ _ _ _ _ (Act.put _ (some 28) _) _
    (try simp only [Act.put, List.setIfInBounds_toArray, List.set_cons_zero, List.set_cons_succ])
    refine wpAnyH_all (rs := [8]) (by kernel_rfl) (by simp) ?_
    intro i hi
    obtain rfl := List.mem_singleton.1 hi
    refine wpOp_of rfl rfl ?_
    refine w_call (f := 18) (args := #[s2.v, .string (rgName 6), .int .i64 (v0 : Int)]) (fun w => rfl) (by go_simp) ?_
    refine (rset_name s2 6 HK7.out v0 (HV.out ()) s1 hs1 _).mono ?_
    rintro e w3 ⟨rfl, hb3⟩
    have HM3 := Lib.hid (HM2.out.call hb3)
    have HQ3 := HQ2.call hb3
    clear hb3 HM2 HQ2
    refine ⟨_, rfl, HQ3, ?_⟩
    change wpAnyH _ _ _ _ _ _ _ (Act.put _ (some 32) _) _
    (try simp only [Act.put, List.setIfInBounds_toArray, List.set_cons_zero, List.set_cons_succ])
    refine wpAnyH_all (rs := [9]) (by kernel_rfl) (by simp) ?_
    intro i hi
    obtain rfl := List.mem_singleton.1 hi
    refine wpOp_of rfl rfl ?_
    refine w_lay HM3 rfl rfl rfl (.s .z) (.s .z) aggR.size (Rg.cells_length _) rfl (Rg.one1 _) rfl ?_
    intro w4 HM4
    refine ⟨HM4.out.sub1.sub2, ?_⟩
    refine wpAnyH_done (by kernel_rfl) ?_ _
    have HM := Lib.hid HM4.out.forget
    clear HM3 HQ3 HM4
    have y2 : (y : Int) < 256 := by have := Y1.out; omega
    go_upto_region 10 with (first
      | ((with_reducible apply own_box HM); exact rfl; (conv => lhs; whnf); exact rfl; exact rfl; (first | (clear tg1; intro w' g1 HM') | (clear tg2; intro w' g2 HM') | (clear tg3; intro w' g3 HM') | (clear tg4; intro w' g4 HM') | intro w' g' HM'); clear HM; have HM := HM'; clear HM'; all_goals skip) | ((with_reducible apply own_cell HM); exact rfl; exact rfl; (first | (with_reducible exact oneU16)); (first | with_reducible exact .z | with_reducible exact .s .z | with_reducible exact .s (.s .z) | with_reducible exact .s (.s (.s .z)) | with_reducible exact .s (.s (.s (.s .z))) | with_reducible exact .s (.s (.s (.s (.s .z))))); (focus repeat' (first | with_reducible exact .z | with_reducible apply Drop.s)); exact rfl; all_goals skip) | ((with_reducible apply own_store HM); exact rfl; exact rfl; (conv => lhs; whnf); exact rfl; (first | with_reducible exact .z | with_reducible exact .s .z | with_reducible exact .s (.s .z) | with_reducible exact .s (.s (.s .z)) | with_reducible exact .s (.s (.s (.s .z))) | with_reducible exact .s (.s (.s (.s (.s .z))))); (focus repeat' (first | with_reducible exact .z | with_reducible apply Over.p | with_reducible apply Over.s)); (first | with_reducible exact .z | with_reducible exact .s .z | with_reducible exact .s (.s .z) | with_reducible exact .s (.s (.s .z)) | with_reducible exact .s (.s (.s (.s .z))) | with_reducible exact .s (.s (.s (.s (.s .z))))); (first | (with_reducible exact (oneU16).size)); exact rfl; exact rfl; exact rfl; exact rfl; intro w' HM'; clear HM; have HM := HM'; clear HM'; all_goals skip)
      | ((with_reducible apply own_row HM); exact rfl; exact rfl; exact aggR; (first | with_reducible exact .z | with_reducible exact .s .z | with_reducible exact .s (.s .z) | with_reducible exact .s (.s (.s .z)) | with_reducible exact .s (.s (.s (.s .z))) | with_reducible exact .s (.s (.s (.s (.s .z))))); exact rfl; (first | exact Rg.cells_length _ | exact rfl); all_goals skip) | ((with_reducible apply own_lay HM); exact rfl; exact rfl; exact rfl; (first | with_reducible exact .z | with_reducible exact .s .z | with_reducible exact .s (.s .z) | with_reducible exact .s (.s (.s .z)) | with_reducible exact .s (.s (.s (.s .z))) | with_reducible exact .s (.s (.s (.s (.s .z))))); (first | with_reducible exact .z | with_reducible exact .s .z | with_reducible exact .s (.s .z) | with_reducible exact .s (.s (.s .z)) | with_reducible exact .s (.s (.s (.s .z))) | with_reducible exact .s (.s (.s (.s (.s .z))))); exact aggR.size; (first | exact Rg.cells_length _ | exact rfl); (first | exact Rg.cells_length _ | exact rfl); (first | exact Rg.one1 _ | exact rfl); exact rfl; exact rfl; intro w' HM'; clear HM; have HM := HM'; clear HM'; all_goals skip)
      | (go_at_call 14; (with_reducible refine (letters_at (6 : Int) px _ hL _).mono ?_); rintro e w' ⟨rfl, rfl⟩))
    have ESs1 := Rg.same s1
    have ESs2 := Rg.same s2
    (refine own_region HM (by kernel_rfl) (by kernel_rfl) ?_; (try simp only [Act.put, List.setIfInBounds_toArray, List.set_cons_zero, List.set_cons_succ]); repeat ((fail_if_success (with_reducible refine wpQuiet_nil ?_)); first | go_big_quiet_skip | (go_big_quiet_want; first | ((with_reducible apply quiet_row); exact rfl; exact aggR; (first | with_reducible exact .z | with_reducible exact .s .z | with_reducible exact .s (.s .z) | with_reducible exact .s (.s (.s .z)) | with_reducible exact .s (.s (.s (.s .z))) | with_reducible exact .s (.s (.s (.s (.s .z))))); (first | exact Rg.cells_length _ | exact rfl); go_big_quiet_op; go_big_quiet_on) | ((with_reducible apply quiet_get); exact rfl; (first | (with_reducible exact oneU8) | (with_reducible exact oneU16) | (with_reducible exact oneBool)); (first | with_reducible exact .z | with_reducible exact .s .z | with_reducible exact .s (.s .z) | with_reducible exact .s (.s (.s .z)) | with_reducible exact .s (.s (.s (.s .z))) | with_reducible exact .s (.s (.s (.s (.s .z))))); exact rfl; go_big_quiet_op; go_big_quiet_on) | ((with_reducible apply quiet_load); exact rfl; (with_reducible exact aggAlt); (first | with_reducible exact .z | with_reducible exact .s .z | with_reducible exact .s (.s .z) | with_reducible exact .s (.s (.s .z)) | with_reducible exact .s (.s (.s (.s .z))) | with_reducible exact .s (.s (.s (.s (.s .z))))); exact Rg.altDrop _; exact Rg.altTake _; go_big_quiet_op; go_big_quiet_on) | ((with_reducible apply quiet_call); exact fun w => rfl; (focus (go_simp; all_goals with_reducible rfl)); (intro wq HQ; first | (with_reducible exact setPair_at s2 (6 : Int) v0 (HV.out ()) s1 hs1 _) | (with_reducible exact setOne_no s2 HR.out (6 : Int) HNO.out px y Y1.out _)); go_big_quiet_op; go_big_quiet_on) | (go_big_quiet_op; go_big_quiet_on) | (go_big_quiet_op; refine ⟨_, fun _ _ => rfl, ?_⟩; go_big_quiet_on))))
    refine wpQuiet_nil ?_
    intro w' HM'
    clear HM; have HM := HM'; clear HM'
    go_wp2_with fail
    go_ret
    exact ⟨rfl, Own.fin HM⟩
set_option maxRecDepth 100000 in
set_option maxHeartbeats 6400000 in
theorem set_7 (r : Rg) (hr : r.Fits) (v0 v1 : Nat) (h0 : v0 < 65536) (w : World) : Calls Try.prog 5 #[r.v, .int .i64 (7 : Int), .agg #[.int .u16 (v0 : Int), .int .u16 (v1 : Int)]] w fun e w' => e = .returned (.bool true) ∧ Below w.heap.size w w' := by
  obtain ⟨px, hpx⟩ : ∃ px, px = v1 % 256 := ⟨_, rfl⟩
  have e1 : (v1 : Int) % 256 = (px : Int) := by omega
  obtain ⟨y, hy⟩ : ∃ y, y = v0 % 256 := ⟨_, rfl⟩
  have e2 : (v0 : Int) % 256 = (y : Int) := by omega
  have y1 : y < 256 := by omega
  have Y1 := Lib.hid y1
  clear hpx hy y1
  obtain ⟨s1, hs1⟩ : ∃ s1, Hid (r.setPair (7 : Int) v0 = s1) := ⟨_, rfl⟩
  obtain ⟨s2, hs2⟩ : ∃ s2, Hid (r.setOne (7 : Int) px y = s2) := ⟨_, rfl⟩
  have hnp : ¬ (7 : Int) = 0 ∧ ¬ (7 : Int) = 1 ∧ ¬ (7 : Int) = 2 ∧ ¬ (7 : Int) = 3 ∧ ¬ (7 : Int) = 4 ∧ ¬ (7 : Int) = 5 ∧ ¬ (7 : Int) = 6 := by omega
  have es1 : s1 = r := by rw [← hs1.out, r.setPair_no _ _ hnp]
  subst es1
  have HLE := Lib.hid (show 0 ≤ (7 : Int) ∧ (7 : Int) ≤ 7 ∧ ¬ (7 : Int) = 6 by omega)
  obtain ⟨L, hL⟩ : ∃ L, Hid (rgLet (7 : Int) px = L) := ⟨_, rfl⟩
  have hne : L.toList.isEmpty = false := by rw [← hL.out]; exact let_list (7 : Int) px HLE.out
  have HR := Lib.hid hr
  clear hr
  have HV : Hid (Unit → v0 < 65536) := fun _ => h0
  clear h0
  have tg3 : Hid True := trivial
  have tg4 : Hid True := trivial
  have HNP := Lib.hid hnp
  clear hnp
  have HM := Lib.hid (Own.start w)
  have tg1 : Hid True := trivial
  have tg2 : Hid True := trivial
  go_enter Try.func5, Try.ntmps5
  go_upto_region 4 with (first
    | ((with_reducible apply own_box HM); exact rfl; (conv => lhs; whnf); exact rfl; exact rfl; (first | (clear tg1; intro w' g1 HM') | (clear tg2; intro w' g2 HM') | (clear tg3; intro w' g3 HM') | (clear tg4; intro w' g4 HM') | intro w' g' HM'); clear HM; have HM := HM'; clear HM'; all_goals skip) | ((with_reducible apply own_cell HM); exact rfl; exact rfl; (first | (with_reducible exact oneU16)); (first | with_reducible exact .z | with_reducible exact .s .z | with_reducible exact .s (.s .z) | with_reducible exact .s (.s (.s .z)) | with_reducible exact .s (.s (.s (.s .z))) | with_reducible exact .s (.s (.s (.s (.s .z))))); (focus repeat' (first | with_reducible exact .z | with_reducible apply Drop.s)); exact rfl; all_goals skip) | ((with_reducible apply own_store HM); exact rfl; exact rfl; (conv => lhs; whnf); exact rfl; (first | with_reducible exact .z | with_reducible exact .s .z | with_reducible exact .s (.s .z) | with_reducible exact .s (.s (.s .z)) | with_reducible exact .s (.s (.s (.s .z))) | with_reducible exact .s (.s (.s (.s (.s .z))))); (focus repeat' (first | with_reducible exact .z | with_reducible apply Over.p | with_reducible apply Over.s)); (first | with_reducible exact .z | with_reducible exact .s .z | with_reducible exact .s (.s .z) | with_reducible exact .s (.s (.s .z)) | with_reducible exact .s (.s (.s (.s .z))) | with_reducible exact .s (.s (.s (.s (.s .z))))); (first | (with_reducible exact (oneU16).size)); exact rfl; exact rfl; exact rfl; exact rfl; intro w' HM'; clear HM; have HM := HM'; clear HM'; all_goals skip)
    | (go_at_call 7; (with_reducible refine (regsAlive_any _).mono ?_); rintro e w' ⟨rfl, hb⟩; have HM' := Lib.hid (HM.out.call hb); clear HM hb; have HM := HM'; clear HM'))
  go_cut [8, 9] from 16 to 17 (fun s8 s9 wx => ∃ ga gb : Nat, s8 = .pointer (some ⟨ga, 0, none⟩) ∧ s9 = .pointer (some ⟨gb, 0, none⟩) ∧ Hid (Own w wx ((ga, 26, s1.cells) :: (gb, 26, s1.cells) :: (g2, 37, [.int .u16 (v0 : Int), .int .u16 (v1 : Int)]) :: (g1, 26, s1.cells) :: [])))
  case' first =>
    refine wp_region_held (S := fun w' => Own w w' ((g2, 37, [.int .u16 (v0 : Int), .int .u16 (v1 : Int)]) :: (g1, 26, s1.cells) :: [])) (by kernel_rfl) ?_
    have HM' := Lib.hid HM.out.drew
    change wpAnyH _ _ _ _ _ _ _ _ (World.drew _)
    clear HM; have HM := HM'; clear HM'
    have HQ := HM.out
    refine h_take (i := 0) (d := 16) (v := .agg s1.cells.toArray) rfl rfl (by kernel_rfl) (by kernel_rfl) (by kernel_rfl) (fun _ _ _ h => h) (y_row rfl rfl aggR (.s .z) (Rg.cells_length _) rfl) HQ ?_
    (try simp only [Act.put, List.setIfInBounds_toArray, List.set_cons_zero, List.set_cons_succ])
    refine h_take (i := 1) (d := 17) (v := .agg s1.cells.toArray) rfl rfl (by kernel_rfl) (by kernel_rfl) (by kernel_rfl) (fun _ _ _ h => h) (y_row rfl rfl aggR (.s .z) (Rg.cells_length _) rfl) HQ ?_
    (try simp only [Act.put, List.setIfInBounds_toArray, List.set_cons_zero, List.set_cons_succ])
    clear HQ
    refine wpAnyH_all (rs := [2, 3]) (by kernel_rfl) (by simp) ?_
    intro i hi
    simp only [List.mem_cons, List.not_mem_nil, or_false] at hi
    rcases hi with rfl | rfl
    · refine wpOp_of rfl rfl ?_
      refine w_alloc HM rfl zeroR ?_
      intro w1 ga HM1
      refine ⟨HM1.out.sub1, ?_⟩
      change wpAnyH _ _ _ _ _ _ _ (Act.put _ (some 8) _) _
      (try simp only [Act.put, List.setIfInBounds_toArray, List.set_cons_zero, List.set_cons_succ])
      refine wpAnyH_all (rs := [3]) (by kernel_rfl) (by simp) ?_
      intro i hi
      obtain rfl := List.mem_singleton.1 hi
      refine wpOp_of rfl rfl ?_
      refine w_alloc HM1 rfl zeroR ?_
      intro w2 gb HM2
      refine ⟨HM2.out.sub2, ?_⟩
      change wpAnyH _ _ _ _ _ _ _ (Act.put _ (some 9) _) _
      (try simp only [Act.put, List.setIfInBounds_toArray, List.set_cons_zero, List.set_cons_succ])
      refine wpAnyH_all (rs := [4]) (by kernel_rfl) (by simp) ?_
      intro i hi
      obtain rfl := List.mem_singleton.1 hi
      refine wpOp_of rfl rfl ?_
      refine w_lay HM2 rfl rfl rfl (.s .z) (.s .z) aggR.size (Rg.cells_length _) rfl (Rg.one1 _) rfl ?_
      intro w3 HM3
      refine ⟨HM3.out.sub2, ?_⟩
      refine wpAnyH_all (rs := [5]) (by kernel_rfl) (by simp) ?_
      intro i hi
      obtain rfl := List.mem_singleton.1 hi
      refine wpOp_of rfl rfl ?_
      refine w_lay HM3 rfl rfl rfl .z .z aggR.size (Rg.cells_length _) rfl (Rg.one1 _) rfl ?_
      intro w4 HM4
      refine ⟨HM4.out.sub2, ?_⟩
      refine wpAnyH_done (by kernel_rfl) ?_ _
      go_wp2_with fail
      go_meet
      exact ⟨ga, gb, rfl, rfl, Lib.hid HM4.out.swap⟩
    · refine wpOp_of rfl rfl ?_
      refine w_alloc HM rfl zeroR ?_
      intro w1 gb HM1
      refine ⟨HM1.out.sub1, ?_⟩
      change wpAnyH _ _ _ _ _ _ _ (Act.put _ (some 9) _) _
      (try simp only [Act.put, List.setIfInBounds_toArray, List.set_cons_zero, List.set_cons_succ])
      refine wpAnyH_all (rs := [2]) (by kernel_rfl) (by simp) ?_
      intro i hi
      obtain rfl := List.mem_singleton.1 hi
      refine wpOp_of rfl rfl ?_
      refine w_alloc HM1 rfl zeroR ?_
      intro w2 ga HM2
      refine ⟨HM2.out.sub2, ?_⟩
      change wpAnyH _ _ _ _ _ _ _ (Act.put _ (some 8) _) _
      (try simp only [Act.put, List.setIfInBounds_toArray, List.set_cons_zero, List.set_cons_succ])
      refine wpAnyH_all (rs := [4]) (by kernel_rfl) (by simp) ?_
      intro i hi
      obtain rfl := List.mem_singleton.1 hi
      refine wpOp_of rfl rfl ?_
      refine w_lay HM2 rfl rfl rfl .z .z aggR.size (Rg.cells_length _) rfl (Rg.one1 _) rfl ?_
      intro w3 HM3
      refine ⟨HM3.out.sub2, ?_⟩
      refine wpAnyH_all (rs := [5]) (by kernel_rfl) (by simp) ?_
      intro i hi
      obtain rfl := List.mem_singleton.1 hi
      refine wpOp_of rfl rfl ?_
      refine w_lay HM3 rfl rfl rfl (.s .z) (.s .z) aggR.size (Rg.cells_length _) rfl (Rg.one1 _) rfl ?_
      intro w4 HM4
      refine ⟨HM4.out.sub2, ?_⟩
      refine wpAnyH_done (by kernel_rfl) ?_ _
      go_wp2_with fail
      go_meet
      exact ⟨ga, gb, rfl, rfl, HM4⟩
  case' rest =>
    clear HM tg3 tg4
    obtain ⟨g3, g4, rfl, rfl, HM⟩ := hcut
    have y2 : (y : Int) < 256 := by have := Y1.out; omega
    go_upto_region 10 with (first
      | ((with_reducible apply own_box HM); exact rfl; (conv => lhs; whnf); exact rfl; exact rfl; (first | (clear tg1; intro w' g1 HM') | (clear tg2; intro w' g2 HM') | (clear tg3; intro w' g3 HM') | (clear tg4; intro w' g4 HM') | intro w' g' HM'); clear HM; have HM := HM'; clear HM'; all_goals skip) | ((with_reducible apply own_cell HM); exact rfl; exact rfl; (first | (with_reducible exact oneU16)); (first | with_reducible exact .z | with_reducible exact .s .z | with_reducible exact .s (.s .z) | with_reducible exact .s (.s (.s .z)) | with_reducible exact .s (.s (.s (.s .z))) | with_reducible exact .s (.s (.s (.s (.s .z))))); (focus repeat' (first | with_reducible exact .z | with_reducible apply Drop.s)); exact rfl; all_goals skip) | ((with_reducible apply own_store HM); exact rfl; exact rfl; (conv => lhs; whnf); exact rfl; (first | with_reducible exact .z | with_reducible exact .s .z | with_reducible exact .s (.s .z) | with_reducible exact .s (.s (.s .z)) | with_reducible exact .s (.s (.s (.s .z))) | with_reducible exact .s (.s (.s (.s (.s .z))))); (focus repeat' (first | with_reducible exact .z | with_reducible apply Over.p | with_reducible apply Over.s)); (first | with_reducible exact .z | with_reducible exact .s .z | with_reducible exact .s (.s .z) | with_reducible exact .s (.s (.s .z)) | with_reducible exact .s (.s (.s (.s .z))) | with_reducible exact .s (.s (.s (.s (.s .z))))); (first | (with_reducible exact (oneU16).size)); exact rfl; exact rfl; exact rfl; exact rfl; intro w' HM'; clear HM; have HM := HM'; clear HM'; all_goals skip)
      | ((with_reducible apply own_row HM); exact rfl; exact rfl; exact aggR; (first | with_reducible exact .z | with_reducible exact .s .z | with_reducible exact .s (.s .z) | with_reducible exact .s (.s (.s .z)) | with_reducible exact .s (.s (.s (.s .z))) | with_reducible exact .s (.s (.s (.s (.s .z))))); exact rfl; (first | exact Rg.cells_length _ | exact rfl); all_goals skip) | ((with_reducible apply own_lay HM); exact rfl; exact rfl; exact rfl; (first | with_reducible exact .z | with_reducible exact .s .z | with_reducible exact .s (.s .z) | with_reducible exact .s (.s (.s .z)) | with_reducible exact .s (.s (.s (.s .z))) | with_reducible exact .s (.s (.s (.s (.s .z))))); (first | with_reducible exact .z | with_reducible exact .s .z | with_reducible exact .s (.s .z) | with_reducible exact .s (.s (.s .z)) | with_reducible exact .s (.s (.s (.s .z))) | with_reducible exact .s (.s (.s (.s (.s .z))))); exact aggR.size; (first | exact Rg.cells_length _ | exact rfl); (first | exact Rg.cells_length _ | exact rfl); (first | exact Rg.one1 _ | exact rfl); exact rfl; exact rfl; intro w' HM'; clear HM; have HM := HM'; clear HM'; all_goals skip)
      | (go_at_call 14; (with_reducible refine (letters_at (7 : Int) px _ hL _).mono ?_); rintro e w' ⟨rfl, rfl⟩)
      | (go_at_call 18; (with_reducible refine (rset_let s1 HR.out (7 : Int) px HLE.out L hL y Y1.out s2 hs2 _).mono ?_); rintro e w' ⟨rfl, hb⟩; have HM' := Lib.hid (HM.out.call hb); clear HM hb; have HM := HM'; clear HM'))
    have ESs1 := Rg.same s1
    have ESs2 := Rg.same s2
    (refine own_region HM (by kernel_rfl) (by kernel_rfl) ?_; (try simp only [Act.put, List.setIfInBounds_toArray, List.set_cons_zero, List.set_cons_succ]); repeat ((fail_if_success (with_reducible refine wpQuiet_nil ?_)); first | go_big_quiet_skip | (go_big_quiet_want; first | ((with_reducible apply quiet_row); exact rfl; exact aggR; (first | with_reducible exact .z | with_reducible exact .s .z | with_reducible exact .s (.s .z) | with_reducible exact .s (.s (.s .z)) | with_reducible exact .s (.s (.s (.s .z))) | with_reducible exact .s (.s (.s (.s (.s .z))))); (first | exact Rg.cells_length _ | exact rfl); go_big_quiet_op; go_big_quiet_on) | ((with_reducible apply quiet_get); exact rfl; (first | (with_reducible exact oneU8) | (with_reducible exact oneU16) | (with_reducible exact oneBool)); (first | with_reducible exact .z | with_reducible exact .s .z | with_reducible exact .s (.s .z) | with_reducible exact .s (.s (.s .z)) | with_reducible exact .s (.s (.s (.s .z))) | with_reducible exact .s (.s (.s (.s (.s .z))))); exact rfl; go_big_quiet_op; go_big_quiet_on) | ((with_reducible apply quiet_load); exact rfl; (with_reducible exact aggAlt); (first | with_reducible exact .z | with_reducible exact .s .z | with_reducible exact .s (.s .z) | with_reducible exact .s (.s (.s .z)) | with_reducible exact .s (.s (.s (.s .z))) | with_reducible exact .s (.s (.s (.s (.s .z))))); exact Rg.altDrop _; exact Rg.altTake _; go_big_quiet_op; go_big_quiet_on) | ((with_reducible apply quiet_call); exact fun w => rfl; (focus (go_simp; all_goals with_reducible rfl)); (intro wq HQ; first | (with_reducible exact setPair_no s1 (7 : Int) HNP.out v0 (HV.out ()) _) | (with_reducible exact setOne_at s1 HR.out (7 : Int) px y Y1.out s2 hs2 _)); go_big_quiet_op; go_big_quiet_on) | (go_big_quiet_op; go_big_quiet_on) | (go_big_quiet_op; refine ⟨_, fun _ _ => rfl, ?_⟩; go_big_quiet_on))))
    refine wpQuiet_nil ?_
    intro w' HM'
    clear HM; have HM := HM'; clear HM'
    go_wp2_with fail
    go_ret
    exact ⟨rfl, Own.fin HM⟩
set_option maxRecDepth 100000 in
set_option maxHeartbeats 6400000 in
theorem set_neg (r : Rg) (hr : r.Fits) (n : Int) (hn : n < 0) (v0 v1 : Nat) (h0 : v0 < 65536) (w : World) : Calls Try.prog 5 #[r.v, .int .i64 n, .agg #[.int .u16 (v0 : Int), .int .u16 (v1 : Int)]] w fun e w' => e = .returned (.bool true) ∧ Below w.heap.size w w' := by
  obtain ⟨px, hpx⟩ : ∃ px, px = v1 % 256 := ⟨_, rfl⟩
  have e1 : (v1 : Int) % 256 = (px : Int) := by omega
  obtain ⟨y, hy⟩ : ∃ y, y = v0 % 256 := ⟨_, rfl⟩
  have e2 : (v0 : Int) % 256 = (y : Int) := by omega
  have y1 : y < 256 := by omega
  have Y1 := Lib.hid y1
  clear hpx hy y1
  obtain ⟨s1, hs1⟩ : ∃ s1, Hid (r.setPair n v0 = s1) := ⟨_, rfl⟩
  obtain ⟨s2, hs2⟩ : ∃ s2, Hid (r.setOne n px y = s2) := ⟨_, rfl⟩
  have hnp : ¬ n = 0 ∧ ¬ n = 1 ∧ ¬ n = 2 ∧ ¬ n = 3 ∧ ¬ n = 4 ∧ ¬ n = 5 ∧ ¬ n = 6 := by omega
  have es1 : s1 = r := by rw [← hs1.out, r.setPair_no _ _ hnp]
  subst es1
  have hL : Hid (rgLet n px = ⟨#[]⟩) := let_none n px (by omega)
  have hno : ¬ n = 0 ∧ ¬ n = 1 ∧ ¬ n = 2 ∧ ¬ n = 3 ∧ ¬ n = 7 ∧ ¬ n = 4 ∧ ¬ n = 5 := by omega
  have es2 : s2 = s1 := by rw [← hs2.out, Rg.setOne_no _ _ _ _ hno]
  subst es2
  have HR := Lib.hid hr
  clear hr
  have HV : Hid (Unit → v0 < 65536) := fun _ => h0
  clear h0
  have tg3 : Hid True := trivial
  have tg4 : Hid True := trivial
  have HNP := Lib.hid hnp
  clear hnp
  have HNO := Lib.hid hno
  clear hno
  have HM := Lib.hid (Own.start w)
  have tg1 : Hid True := trivial
  have tg2 : Hid True := trivial
  go_enter Try.func5, Try.ntmps5
  go_upto_region 4 with (first
    | ((with_reducible apply own_box HM); exact rfl; (conv => lhs; whnf); exact rfl; exact rfl; (first | (clear tg1; intro w' g1 HM') | (clear tg2; intro w' g2 HM') | (clear tg3; intro w' g3 HM') | (clear tg4; intro w' g4 HM') | intro w' g' HM'); clear HM; have HM := HM'; clear HM'; all_goals skip) | ((with_reducible apply own_cell HM); exact rfl; exact rfl; (first | (with_reducible exact oneU16)); (first | with_reducible exact .z | with_reducible exact .s .z | with_reducible exact .s (.s .z) | with_reducible exact .s (.s (.s .z)) | with_reducible exact .s (.s (.s (.s .z))) | with_reducible exact .s (.s (.s (.s (.s .z))))); (focus repeat' (first | with_reducible exact .z | with_reducible apply Drop.s)); exact rfl; all_goals skip) | ((with_reducible apply own_store HM); exact rfl; exact rfl; (conv => lhs; whnf); exact rfl; (first | with_reducible exact .z | with_reducible exact .s .z | with_reducible exact .s (.s .z) | with_reducible exact .s (.s (.s .z)) | with_reducible exact .s (.s (.s (.s .z))) | with_reducible exact .s (.s (.s (.s (.s .z))))); (focus repeat' (first | with_reducible exact .z | with_reducible apply Over.p | with_reducible apply Over.s)); (first | with_reducible exact .z | with_reducible exact .s .z | with_reducible exact .s (.s .z) | with_reducible exact .s (.s (.s .z)) | with_reducible exact .s (.s (.s (.s .z))) | with_reducible exact .s (.s (.s (.s (.s .z))))); (first | (with_reducible exact (oneU16).size)); exact rfl; exact rfl; exact rfl; exact rfl; intro w' HM'; clear HM; have HM := HM'; clear HM'; all_goals skip)
    | (go_at_call 7; (with_reducible refine (regsAlive_any _).mono ?_); rintro e w' ⟨rfl, hb⟩; have HM' := Lib.hid (HM.out.call hb); clear HM hb; have HM := HM'; clear HM'))
  go_cut [8, 9] from 16 to 17 (fun s8 s9 wx => ∃ ga gb : Nat, s8 = .pointer (some ⟨ga, 0, none⟩) ∧ s9 = .pointer (some ⟨gb, 0, none⟩) ∧ Hid (Own w wx ((ga, 26, s2.cells) :: (gb, 26, s2.cells) :: (g2, 37, [.int .u16 (v0 : Int), .int .u16 (v1 : Int)]) :: (g1, 26, s2.cells) :: [])))
  case' first =>
    refine wp_region_held (S := fun w' => Own w w' ((g2, 37, [.int .u16 (v0 : Int), .int .u16 (v1 : Int)]) :: (g1, 26, s2.cells) :: [])) (by kernel_rfl) ?_
    have HM' := Lib.hid HM.out.drew
    change wpAnyH _ _ _ _ _ _ _ _ (World.drew _)
    clear HM; have HM := HM'; clear HM'
    have HQ := HM.out
    refine h_take (i := 0) (d := 16) (v := .agg s2.cells.toArray) rfl rfl (by kernel_rfl) (by kernel_rfl) (by kernel_rfl) (fun _ _ _ h => h) (y_row rfl rfl aggR (.s .z) (Rg.cells_length _) rfl) HQ ?_
    (try simp only [Act.put, List.setIfInBounds_toArray, List.set_cons_zero, List.set_cons_succ])
    refine h_take (i := 1) (d := 17) (v := .agg s2.cells.toArray) rfl rfl (by kernel_rfl) (by kernel_rfl) (by kernel_rfl) (fun _ _ _ h => h) (y_row rfl rfl aggR (.s .z) (Rg.cells_length _) rfl) HQ ?_
    (try simp only [Act.put, List.setIfInBounds_toArray, List.set_cons_zero, List.set_cons_succ])
    clear HQ
    refine wpAnyH_all (rs := [2, 3]) (by kernel_rfl) (by simp) ?_
    intro i hi
    simp only [List.mem_cons, List.not_mem_nil, or_false] at hi
    rcases hi with rfl | rfl
    · refine wpOp_of rfl rfl ?_
      refine w_alloc HM rfl zeroR ?_
      intro w1 ga HM1
      refine ⟨HM1.out.sub1, ?_⟩
      change wpAnyH _ _ _ _ _ _ _ (Act.put _ (some 8) _) _
      (try simp only [Act.put, List.setIfInBounds_toArray, List.set_cons_zero, List.set_cons_succ])
      refine wpAnyH_all (rs := [3]) (by kernel_rfl) (by simp) ?_
      intro i hi
      obtain rfl := List.mem_singleton.1 hi
      refine wpOp_of rfl rfl ?_
      refine w_alloc HM1 rfl zeroR ?_
      intro w2 gb HM2
      refine ⟨HM2.out.sub2, ?_⟩
      change wpAnyH _ _ _ _ _ _ _ (Act.put _ (some 9) _) _
      (try simp only [Act.put, List.setIfInBounds_toArray, List.set_cons_zero, List.set_cons_succ])
      refine wpAnyH_all (rs := [4]) (by kernel_rfl) (by simp) ?_
      intro i hi
      obtain rfl := List.mem_singleton.1 hi
      refine wpOp_of rfl rfl ?_
      refine w_lay HM2 rfl rfl rfl (.s .z) (.s .z) aggR.size (Rg.cells_length _) rfl (Rg.one1 _) rfl ?_
      intro w3 HM3
      refine ⟨HM3.out.sub2, ?_⟩
      refine wpAnyH_all (rs := [5]) (by kernel_rfl) (by simp) ?_
      intro i hi
      obtain rfl := List.mem_singleton.1 hi
      refine wpOp_of rfl rfl ?_
      refine w_lay HM3 rfl rfl rfl .z .z aggR.size (Rg.cells_length _) rfl (Rg.one1 _) rfl ?_
      intro w4 HM4
      refine ⟨HM4.out.sub2, ?_⟩
      refine wpAnyH_done (by kernel_rfl) ?_ _
      go_wp2_with fail
      go_meet
      exact ⟨ga, gb, rfl, rfl, Lib.hid HM4.out.swap⟩
    · refine wpOp_of rfl rfl ?_
      refine w_alloc HM rfl zeroR ?_
      intro w1 gb HM1
      refine ⟨HM1.out.sub1, ?_⟩
      change wpAnyH _ _ _ _ _ _ _ (Act.put _ (some 9) _) _
      (try simp only [Act.put, List.setIfInBounds_toArray, List.set_cons_zero, List.set_cons_succ])
      refine wpAnyH_all (rs := [2]) (by kernel_rfl) (by simp) ?_
      intro i hi
      obtain rfl := List.mem_singleton.1 hi
      refine wpOp_of rfl rfl ?_
      refine w_alloc HM1 rfl zeroR ?_
      intro w2 ga HM2
      refine ⟨HM2.out.sub2, ?_⟩
      change wpAnyH _ _ _ _ _ _ _ (Act.put _ (some 8) _) _
      (try simp only [Act.put, List.setIfInBounds_toArray, List.set_cons_zero, List.set_cons_succ])
      refine wpAnyH_all (rs := [4]) (by kernel_rfl) (by simp) ?_
      intro i hi
      obtain rfl := List.mem_singleton.1 hi
      refine wpOp_of rfl rfl ?_
      refine w_lay HM2 rfl rfl rfl .z .z aggR.size (Rg.cells_length _) rfl (Rg.one1 _) rfl ?_
      intro w3 HM3
      refine ⟨HM3.out.sub2, ?_⟩
      refine wpAnyH_all (rs := [5]) (by kernel_rfl) (by simp) ?_
      intro i hi
      obtain rfl := List.mem_singleton.1 hi
      refine wpOp_of rfl rfl ?_
      refine w_lay HM3 rfl rfl rfl (.s .z) (.s .z) aggR.size (Rg.cells_length _) rfl (Rg.one1 _) rfl ?_
      intro w4 HM4
      refine ⟨HM4.out.sub2, ?_⟩
      refine wpAnyH_done (by kernel_rfl) ?_ _
      go_wp2_with fail
      go_meet
      exact ⟨ga, gb, rfl, rfl, HM4⟩
  case' rest =>
    clear HM tg3 tg4
    obtain ⟨g3, g4, rfl, rfl, HM⟩ := hcut
    have y2 : (y : Int) < 256 := by have := Y1.out; omega
    go_upto_region 10 with (first
      | ((with_reducible apply own_box HM); exact rfl; (conv => lhs; whnf); exact rfl; exact rfl; (first | (clear tg1; intro w' g1 HM') | (clear tg2; intro w' g2 HM') | (clear tg3; intro w' g3 HM') | (clear tg4; intro w' g4 HM') | intro w' g' HM'); clear HM; have HM := HM'; clear HM'; all_goals skip) | ((with_reducible apply own_cell HM); exact rfl; exact rfl; (first | (with_reducible exact oneU16)); (first | with_reducible exact .z | with_reducible exact .s .z | with_reducible exact .s (.s .z) | with_reducible exact .s (.s (.s .z)) | with_reducible exact .s (.s (.s (.s .z))) | with_reducible exact .s (.s (.s (.s (.s .z))))); (focus repeat' (first | with_reducible exact .z | with_reducible apply Drop.s)); exact rfl; all_goals skip) | ((with_reducible apply own_store HM); exact rfl; exact rfl; (conv => lhs; whnf); exact rfl; (first | with_reducible exact .z | with_reducible exact .s .z | with_reducible exact .s (.s .z) | with_reducible exact .s (.s (.s .z)) | with_reducible exact .s (.s (.s (.s .z))) | with_reducible exact .s (.s (.s (.s (.s .z))))); (focus repeat' (first | with_reducible exact .z | with_reducible apply Over.p | with_reducible apply Over.s)); (first | with_reducible exact .z | with_reducible exact .s .z | with_reducible exact .s (.s .z) | with_reducible exact .s (.s (.s .z)) | with_reducible exact .s (.s (.s (.s .z))) | with_reducible exact .s (.s (.s (.s (.s .z))))); (first | (with_reducible exact (oneU16).size)); exact rfl; exact rfl; exact rfl; exact rfl; intro w' HM'; clear HM; have HM := HM'; clear HM'; all_goals skip)
      | ((with_reducible apply own_row HM); exact rfl; exact rfl; exact aggR; (first | with_reducible exact .z | with_reducible exact .s .z | with_reducible exact .s (.s .z) | with_reducible exact .s (.s (.s .z)) | with_reducible exact .s (.s (.s (.s .z))) | with_reducible exact .s (.s (.s (.s (.s .z))))); exact rfl; (first | exact Rg.cells_length _ | exact rfl); all_goals skip) | ((with_reducible apply own_lay HM); exact rfl; exact rfl; exact rfl; (first | with_reducible exact .z | with_reducible exact .s .z | with_reducible exact .s (.s .z) | with_reducible exact .s (.s (.s .z)) | with_reducible exact .s (.s (.s (.s .z))) | with_reducible exact .s (.s (.s (.s (.s .z))))); (first | with_reducible exact .z | with_reducible exact .s .z | with_reducible exact .s (.s .z) | with_reducible exact .s (.s (.s .z)) | with_reducible exact .s (.s (.s (.s .z))) | with_reducible exact .s (.s (.s (.s (.s .z))))); exact aggR.size; (first | exact Rg.cells_length _ | exact rfl); (first | exact Rg.cells_length _ | exact rfl); (first | exact Rg.one1 _ | exact rfl); exact rfl; exact rfl; intro w' HM'; clear HM; have HM := HM'; clear HM'; all_goals skip)
      | (go_at_call 14; (with_reducible refine (letters_at n px _ hL _).mono ?_); rintro e w' ⟨rfl, rfl⟩))
    have ESs2 := Rg.same s2
    (refine own_region HM (by kernel_rfl) (by kernel_rfl) ?_; (try simp only [Act.put, List.setIfInBounds_toArray, List.set_cons_zero, List.set_cons_succ]); repeat ((fail_if_success (with_reducible refine wpQuiet_nil ?_)); first | go_big_quiet_skip | (go_big_quiet_want; first | ((with_reducible apply quiet_row); exact rfl; exact aggR; (first | with_reducible exact .z | with_reducible exact .s .z | with_reducible exact .s (.s .z) | with_reducible exact .s (.s (.s .z)) | with_reducible exact .s (.s (.s (.s .z))) | with_reducible exact .s (.s (.s (.s (.s .z))))); (first | exact Rg.cells_length _ | exact rfl); go_big_quiet_op; go_big_quiet_on) | ((with_reducible apply quiet_get); exact rfl; (first | (with_reducible exact oneU8) | (with_reducible exact oneU16) | (with_reducible exact oneBool)); (first | with_reducible exact .z | with_reducible exact .s .z | with_reducible exact .s (.s .z) | with_reducible exact .s (.s (.s .z)) | with_reducible exact .s (.s (.s (.s .z))) | with_reducible exact .s (.s (.s (.s (.s .z))))); exact rfl; go_big_quiet_op; go_big_quiet_on) | ((with_reducible apply quiet_load); exact rfl; (with_reducible exact aggAlt); (first | with_reducible exact .z | with_reducible exact .s .z | with_reducible exact .s (.s .z) | with_reducible exact .s (.s (.s .z)) | with_reducible exact .s (.s (.s (.s .z))) | with_reducible exact .s (.s (.s (.s (.s .z))))); exact Rg.altDrop _; exact Rg.altTake _; go_big_quiet_op; go_big_quiet_on) | ((with_reducible apply quiet_call); exact fun w => rfl; (focus (go_simp; all_goals with_reducible rfl)); (intro wq HQ; first | (with_reducible exact setPair_no s2 n HNP.out v0 (HV.out ()) _) | (with_reducible exact setOne_no s2 HR.out n HNO.out px y Y1.out _)); go_big_quiet_op; go_big_quiet_on) | (go_big_quiet_op; go_big_quiet_on) | (go_big_quiet_op; refine ⟨_, fun _ _ => rfl, ?_⟩; go_big_quiet_on))))
    refine wpQuiet_nil ?_
    intro w' HM'
    clear HM; have HM := HM'; clear HM'
    go_wp2_with fail
    go_ret
    exact ⟨rfl, Own.fin HM⟩
set_option maxRecDepth 100000 in
set_option maxHeartbeats 6400000 in
theorem set_big (r : Rg) (hr : r.Fits) (n : Int) (hn : 7 < n) (v0 v1 : Nat) (h0 : v0 < 65536) (w : World) : Calls Try.prog 5 #[r.v, .int .i64 n, .agg #[.int .u16 (v0 : Int), .int .u16 (v1 : Int)]] w fun e w' => e = .returned (.bool true) ∧ Below w.heap.size w w' := by
  obtain ⟨px, hpx⟩ : ∃ px, px = v1 % 256 := ⟨_, rfl⟩
  have e1 : (v1 : Int) % 256 = (px : Int) := by omega
  obtain ⟨y, hy⟩ : ∃ y, y = v0 % 256 := ⟨_, rfl⟩
  have e2 : (v0 : Int) % 256 = (y : Int) := by omega
  have y1 : y < 256 := by omega
  have Y1 := Lib.hid y1
  clear hpx hy y1
  obtain ⟨s1, hs1⟩ : ∃ s1, Hid (r.setPair n v0 = s1) := ⟨_, rfl⟩
  obtain ⟨s2, hs2⟩ : ∃ s2, Hid (r.setOne n px y = s2) := ⟨_, rfl⟩
  have hnp : ¬ n = 0 ∧ ¬ n = 1 ∧ ¬ n = 2 ∧ ¬ n = 3 ∧ ¬ n = 4 ∧ ¬ n = 5 ∧ ¬ n = 6 := by omega
  have es1 : s1 = r := by rw [← hs1.out, r.setPair_no _ _ hnp]
  subst es1
  have hL : Hid (rgLet n px = ⟨#[]⟩) := let_none n px (by omega)
  have hno : ¬ n = 0 ∧ ¬ n = 1 ∧ ¬ n = 2 ∧ ¬ n = 3 ∧ ¬ n = 7 ∧ ¬ n = 4 ∧ ¬ n = 5 := by omega
  have es2 : s2 = s1 := by rw [← hs2.out, Rg.setOne_no _ _ _ _ hno]
  subst es2
  have HR := Lib.hid hr
  clear hr
  have HV : Hid (Unit → v0 < 65536) := fun _ => h0
  clear h0
  have tg3 : Hid True := trivial
  have tg4 : Hid True := trivial
  have HNP := Lib.hid hnp
  clear hnp
  have HNO := Lib.hid hno
  clear hno
  have HM := Lib.hid (Own.start w)
  have tg1 : Hid True := trivial
  have tg2 : Hid True := trivial
  go_enter Try.func5, Try.ntmps5
  go_upto_region 4 with (first
    | ((with_reducible apply own_box HM); exact rfl; (conv => lhs; whnf); exact rfl; exact rfl; (first | (clear tg1; intro w' g1 HM') | (clear tg2; intro w' g2 HM') | (clear tg3; intro w' g3 HM') | (clear tg4; intro w' g4 HM') | intro w' g' HM'); clear HM; have HM := HM'; clear HM'; all_goals skip) | ((with_reducible apply own_cell HM); exact rfl; exact rfl; (first | (with_reducible exact oneU16)); (first | with_reducible exact .z | with_reducible exact .s .z | with_reducible exact .s (.s .z) | with_reducible exact .s (.s (.s .z)) | with_reducible exact .s (.s (.s (.s .z))) | with_reducible exact .s (.s (.s (.s (.s .z))))); (focus repeat' (first | with_reducible exact .z | with_reducible apply Drop.s)); exact rfl; all_goals skip) | ((with_reducible apply own_store HM); exact rfl; exact rfl; (conv => lhs; whnf); exact rfl; (first | with_reducible exact .z | with_reducible exact .s .z | with_reducible exact .s (.s .z) | with_reducible exact .s (.s (.s .z)) | with_reducible exact .s (.s (.s (.s .z))) | with_reducible exact .s (.s (.s (.s (.s .z))))); (focus repeat' (first | with_reducible exact .z | with_reducible apply Over.p | with_reducible apply Over.s)); (first | with_reducible exact .z | with_reducible exact .s .z | with_reducible exact .s (.s .z) | with_reducible exact .s (.s (.s .z)) | with_reducible exact .s (.s (.s (.s .z))) | with_reducible exact .s (.s (.s (.s (.s .z))))); (first | (with_reducible exact (oneU16).size)); exact rfl; exact rfl; exact rfl; exact rfl; intro w' HM'; clear HM; have HM := HM'; clear HM'; all_goals skip)
    | (go_at_call 7; (with_reducible refine (regsAlive_any _).mono ?_); rintro e w' ⟨rfl, hb⟩; have HM' := Lib.hid (HM.out.call hb); clear HM hb; have HM := HM'; clear HM'))
  go_cut [8, 9] from 16 to 17 (fun s8 s9 wx => ∃ ga gb : Nat, s8 = .pointer (some ⟨ga, 0, none⟩) ∧ s9 = .pointer (some ⟨gb, 0, none⟩) ∧ Hid (Own w wx ((ga, 26, s2.cells) :: (gb, 26, s2.cells) :: (g2, 37, [.int .u16 (v0 : Int), .int .u16 (v1 : Int)]) :: (g1, 26, s2.cells) :: [])))
  case' first =>
    refine wp_region_held (S := fun w' => Own w w' ((g2, 37, [.int .u16 (v0 : Int), .int .u16 (v1 : Int)]) :: (g1, 26, s2.cells) :: [])) (by kernel_rfl) ?_
    have HM' := Lib.hid HM.out.drew
    change wpAnyH _ _ _ _ _ _ _ _ (World.drew _)
    clear HM; have HM := HM'; clear HM'
    have HQ := HM.out
    refine h_take (i := 0) (d := 16) (v := .agg s2.cells.toArray) rfl rfl (by kernel_rfl) (by kernel_rfl) (by kernel_rfl) (fun _ _ _ h => h) (y_row rfl rfl aggR (.s .z) (Rg.cells_length _) rfl) HQ ?_
    (try simp only [Act.put, List.setIfInBounds_toArray, List.set_cons_zero, List.set_cons_succ])
    refine h_take (i := 1) (d := 17) (v := .agg s2.cells.toArray) rfl rfl (by kernel_rfl) (by kernel_rfl) (by kernel_rfl) (fun _ _ _ h => h) (y_row rfl rfl aggR (.s .z) (Rg.cells_length _) rfl) HQ ?_
    (try simp only [Act.put, List.setIfInBounds_toArray, List.set_cons_zero, List.set_cons_succ])
    clear HQ
    refine wpAnyH_all (rs := [2, 3]) (by kernel_rfl) (by simp) ?_
    intro i hi
    simp only [List.mem_cons, List.not_mem_nil, or_false] at hi
    rcases hi with rfl | rfl
    · refine wpOp_of rfl rfl ?_
      refine w_alloc HM rfl zeroR ?_
      intro w1 ga HM1
      refine ⟨HM1.out.sub1, ?_⟩
      change wpAnyH _ _ _ _ _ _ _ (Act.put _ (some 8) _) _
      (try simp only [Act.put, List.setIfInBounds_toArray, List.set_cons_zero, List.set_cons_succ])
      refine wpAnyH_all (rs := [3]) (by kernel_rfl) (by simp) ?_
      intro i hi
      obtain rfl := List.mem_singleton.1 hi
      refine wpOp_of rfl rfl ?_
      refine w_alloc HM1 rfl zeroR ?_
      intro w2 gb HM2
      refine ⟨HM2.out.sub2, ?_⟩
      change wpAnyH _ _ _ _ _ _ _ (Act.put _ (some 9) _) _
      (try simp only [Act.put, List.setIfInBounds_toArray, List.set_cons_zero, List.set_cons_succ])
      refine wpAnyH_all (rs := [4]) (by kernel_rfl) (by simp) ?_
      intro i hi
      obtain rfl := List.mem_singleton.1 hi
      refine wpOp_of rfl rfl ?_
      refine w_lay HM2 rfl rfl rfl (.s .z) (.s .z) aggR.size (Rg.cells_length _) rfl (Rg.one1 _) rfl ?_
      intro w3 HM3
      refine ⟨HM3.out.sub2, ?_⟩
      refine wpAnyH_all (rs := [5]) (by kernel_rfl) (by simp) ?_
      intro i hi
      obtain rfl := List.mem_singleton.1 hi
      refine wpOp_of rfl rfl ?_
      refine w_lay HM3 rfl rfl rfl .z .z aggR.size (Rg.cells_length _) rfl (Rg.one1 _) rfl ?_
      intro w4 HM4
      refine ⟨HM4.out.sub2, ?_⟩
      refine wpAnyH_done (by kernel_rfl) ?_ _
      go_wp2_with fail
      go_meet
      exact ⟨ga, gb, rfl, rfl, Lib.hid HM4.out.swap⟩
    · refine wpOp_of rfl rfl ?_
      refine w_alloc HM rfl zeroR ?_
      intro w1 gb HM1
      refine ⟨HM1.out.sub1, ?_⟩
      change wpAnyH _ _ _ _ _ _ _ (Act.put _ (some 9) _) _
      (try simp only [Act.put, List.setIfInBounds_toArray, List.set_cons_zero, List.set_cons_succ])
      refine wpAnyH_all (rs := [2]) (by kernel_rfl) (by simp) ?_
      intro i hi
      obtain rfl := List.mem_singleton.1 hi
      refine wpOp_of rfl rfl ?_
      refine w_alloc HM1 rfl zeroR ?_
      intro w2 ga HM2
      refine ⟨HM2.out.sub2, ?_⟩
      change wpAnyH _ _ _ _ _ _ _ (Act.put _ (some 8) _) _
      (try simp only [Act.put, List.setIfInBounds_toArray, List.set_cons_zero, List.set_cons_succ])
      refine wpAnyH_all (rs := [4]) (by kernel_rfl) (by simp) ?_
      intro i hi
      obtain rfl := List.mem_singleton.1 hi
      refine wpOp_of rfl rfl ?_
      refine w_lay HM2 rfl rfl rfl .z .z aggR.size (Rg.cells_length _) rfl (Rg.one1 _) rfl ?_
      intro w3 HM3
      refine ⟨HM3.out.sub2, ?_⟩
      refine wpAnyH_all (rs := [5]) (by kernel_rfl) (by simp) ?_
      intro i hi
      obtain rfl := List.mem_singleton.1 hi
      refine wpOp_of rfl rfl ?_
      refine w_lay HM3 rfl rfl rfl (.s .z) (.s .z) aggR.size (Rg.cells_length _) rfl (Rg.one1 _) rfl ?_
      intro w4 HM4
      refine ⟨HM4.out.sub2, ?_⟩
      refine wpAnyH_done (by kernel_rfl) ?_ _
      go_wp2_with fail
      go_meet
      exact ⟨ga, gb, rfl, rfl, HM4⟩
  case' rest =>
    clear HM tg3 tg4
    obtain ⟨g3, g4, rfl, rfl, HM⟩ := hcut
    have y2 : (y : Int) < 256 := by have := Y1.out; omega
    go_upto_region 10 with (first
      | ((with_reducible apply own_box HM); exact rfl; (conv => lhs; whnf); exact rfl; exact rfl; (first | (clear tg1; intro w' g1 HM') | (clear tg2; intro w' g2 HM') | (clear tg3; intro w' g3 HM') | (clear tg4; intro w' g4 HM') | intro w' g' HM'); clear HM; have HM := HM'; clear HM'; all_goals skip) | ((with_reducible apply own_cell HM); exact rfl; exact rfl; (first | (with_reducible exact oneU16)); (first | with_reducible exact .z | with_reducible exact .s .z | with_reducible exact .s (.s .z) | with_reducible exact .s (.s (.s .z)) | with_reducible exact .s (.s (.s (.s .z))) | with_reducible exact .s (.s (.s (.s (.s .z))))); (focus repeat' (first | with_reducible exact .z | with_reducible apply Drop.s)); exact rfl; all_goals skip) | ((with_reducible apply own_store HM); exact rfl; exact rfl; (conv => lhs; whnf); exact rfl; (first | with_reducible exact .z | with_reducible exact .s .z | with_reducible exact .s (.s .z) | with_reducible exact .s (.s (.s .z)) | with_reducible exact .s (.s (.s (.s .z))) | with_reducible exact .s (.s (.s (.s (.s .z))))); (focus repeat' (first | with_reducible exact .z | with_reducible apply Over.p | with_reducible apply Over.s)); (first | with_reducible exact .z | with_reducible exact .s .z | with_reducible exact .s (.s .z) | with_reducible exact .s (.s (.s .z)) | with_reducible exact .s (.s (.s (.s .z))) | with_reducible exact .s (.s (.s (.s (.s .z))))); (first | (with_reducible exact (oneU16).size)); exact rfl; exact rfl; exact rfl; exact rfl; intro w' HM'; clear HM; have HM := HM'; clear HM'; all_goals skip)
      | ((with_reducible apply own_row HM); exact rfl; exact rfl; exact aggR; (first | with_reducible exact .z | with_reducible exact .s .z | with_reducible exact .s (.s .z) | with_reducible exact .s (.s (.s .z)) | with_reducible exact .s (.s (.s (.s .z))) | with_reducible exact .s (.s (.s (.s (.s .z))))); exact rfl; (first | exact Rg.cells_length _ | exact rfl); all_goals skip) | ((with_reducible apply own_lay HM); exact rfl; exact rfl; exact rfl; (first | with_reducible exact .z | with_reducible exact .s .z | with_reducible exact .s (.s .z) | with_reducible exact .s (.s (.s .z)) | with_reducible exact .s (.s (.s (.s .z))) | with_reducible exact .s (.s (.s (.s (.s .z))))); (first | with_reducible exact .z | with_reducible exact .s .z | with_reducible exact .s (.s .z) | with_reducible exact .s (.s (.s .z)) | with_reducible exact .s (.s (.s (.s .z))) | with_reducible exact .s (.s (.s (.s (.s .z))))); exact aggR.size; (first | exact Rg.cells_length _ | exact rfl); (first | exact Rg.cells_length _ | exact rfl); (first | exact Rg.one1 _ | exact rfl); exact rfl; exact rfl; intro w' HM'; clear HM; have HM := HM'; clear HM'; all_goals skip)
      | (go_at_call 14; (with_reducible refine (letters_at n px _ hL _).mono ?_); rintro e w' ⟨rfl, rfl⟩))
    have ESs2 := Rg.same s2
    (refine own_region HM (by kernel_rfl) (by kernel_rfl) ?_; (try simp only [Act.put, List.setIfInBounds_toArray, List.set_cons_zero, List.set_cons_succ]); repeat ((fail_if_success (with_reducible refine wpQuiet_nil ?_)); first | go_big_quiet_skip | (go_big_quiet_want; first | ((with_reducible apply quiet_row); exact rfl; exact aggR; (first | with_reducible exact .z | with_reducible exact .s .z | with_reducible exact .s (.s .z) | with_reducible exact .s (.s (.s .z)) | with_reducible exact .s (.s (.s (.s .z))) | with_reducible exact .s (.s (.s (.s (.s .z))))); (first | exact Rg.cells_length _ | exact rfl); go_big_quiet_op; go_big_quiet_on) | ((with_reducible apply quiet_get); exact rfl; (first | (with_reducible exact oneU8) | (with_reducible exact oneU16) | (with_reducible exact oneBool)); (first | with_reducible exact .z | with_reducible exact .s .z | with_reducible exact .s (.s .z) | with_reducible exact .s (.s (.s .z)) | with_reducible exact .s (.s (.s (.s .z))) | with_reducible exact .s (.s (.s (.s (.s .z))))); exact rfl; go_big_quiet_op; go_big_quiet_on) | ((with_reducible apply quiet_load); exact rfl; (with_reducible exact aggAlt); (first | with_reducible exact .z | with_reducible exact .s .z | with_reducible exact .s (.s .z) | with_reducible exact .s (.s (.s .z)) | with_reducible exact .s (.s (.s (.s .z))) | with_reducible exact .s (.s (.s (.s (.s .z))))); exact Rg.altDrop _; exact Rg.altTake _; go_big_quiet_op; go_big_quiet_on) | ((with_reducible apply quiet_call); exact fun w => rfl; (focus (go_simp; all_goals with_reducible rfl)); (intro wq HQ; first | (with_reducible exact setPair_no s2 n HNP.out v0 (HV.out ()) _) | (with_reducible exact setOne_no s2 HR.out n HNO.out px y Y1.out _)); go_big_quiet_op; go_big_quiet_on) | (go_big_quiet_op; go_big_quiet_on) | (go_big_quiet_op; refine ⟨_, fun _ _ => rfl, ?_⟩; go_big_quiet_on))))
    refine wpQuiet_nil ?_
    intro w' HM'
    clear HM; have HM := HM'; clear HM'
    go_wp2_with fail
    go_ret
    exact ⟨rfl, Own.fin HM⟩
theorem set_any (r : Rg) (hr : r.Fits) (n : Int) (v0 v1 : Nat) (h0 : v0 < 65536) (w : World) : Calls Try.prog 5 #[r.v, .int .i64 n, .agg #[.int .u16 (v0 : Int), .int .u16 (v1 : Int)]] w fun e w' => e = .returned (.bool true) ∧ Below w.heap.size w w' := by
  by_cases h1 : n < 0
  · exact set_neg r hr n h1 v0 v1 h0 w
  · by_cases h2 : 7 < n
    · exact set_big r hr n h2 v0 v1 h0 w
    · by_cases h3 : n < 6
      · obtain ⟨k, rfl⟩ := Int.eq_ofNat_of_zero_le (show 0 ≤ n by omega)
        exact set_k r hr k h3 v0 v1 h0 w
      · rcases (show n = 6 ∨ n = 7 by omega) with rfl | rfl
        · exact set_6 r hr v0 v1 h0 w
        · exact set_7 r hr v0 v1 h0 w

end Go.Proofs.Ythehpkhhoimecaa
