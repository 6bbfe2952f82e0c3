/-
  The pages have their numbers; a few of each.
-/
import Derived.Test.YtaiceidmcelapaaDoorNamAll
set_option linter.unusedSimpArgs false
set_option linter.unusedVariables false
namespace Go.Proofs.YtaiceidmcelapaaDoor
open Go.RowKit

theorem made_p1 (w : World) : (Instr.buildSlice 24 4 #[(0, .int .u8 221), (1, .int .u8 203), (2, .int .u8 255), (3, .int .u8 6)]).run Tryd.prog w = .ok (.slice (some ⟨w.heap.size, 0, none⟩) 4 4) (w.alloc (.cells (by8 [221, 203, 255, 6]).toArray 5)) := by kernel_rfl
theorem name_p1 : cName [221, 203, 255, 6] = ([82, 76, 67, 32, 40, 73, 88, 45, 49, 41], 4) := by decide +kernel
theorem made_p2 (w : World) : (Instr.buildSlice 24 2 #[(0, .int .u8 253), (1, .int .u8 221)]).run Tryd.prog w = .ok (.slice (some ⟨w.heap.size, 0, none⟩) 2 2) (w.alloc (.cells (by8 [253, 221]).toArray 5)) := by kernel_rfl
theorem name_p2 : cName [253, 221] = ([70, 68], 1) := by decide +kernel
theorem made_p4 (w : World) : (Instr.buildSlice 24 4 #[(0, .int .u8 221), (1, .int .u8 54), (2, .int .u8 5), (3, .int .u8 171)]).run Tryd.prog w = .ok (.slice (some ⟨w.heap.size, 0, none⟩) 4 4) (w.alloc (.cells (by8 [221, 54, 5, 171]).toArray 5)) := by kernel_rfl
theorem name_p4 : cName [221, 54, 5, 171] = ([76, 68, 32, 40, 73, 88, 43, 53, 41, 44, 36, 65, 66], 4) := by decide +kernel
theorem name_p3 : cName [] = ([78, 79, 80], 1) := by decide +kernel
set_option maxRecDepth 100000 in
set_option maxHeartbeats 6400000 in
theorem pages_any (w : World) (hTab : Tabs w) : Calls Tryd.prog 3 #[] w fun e w' => e = .returned (.bool true) ∧ Below w.heap.size w w' := by
  have hT : Hid (Tabs w) := hTab
  have Hp1 : Hid (∀ (g : Nat) (w : World), Whole w g 5 (by8 [221, 203, 255, 6]) → Tabs w → Calls Tryd.prog 8 #[.slice (some ⟨g, 0, none⟩) 4 4] w fun e w' => e = .returned (.tuple #[.string ⟨#[82, 76, 67, 32, 40, 73, 88, 45, 49, 41]⟩, .int .i64 4]) ∧ Below w.heap.size w w') := by
    intro g w h1 h2
    have := name_at (.slice (some ⟨g, 0, none⟩) 4 4) [221, 203, 255, 6] (by decide) (getD_lt _ (by decide)) w (Rd.ofWhole h1 rfl) h2
    rw [name_p1] at this
    exact this
  have Hp2 : Hid (∀ (g : Nat) (w : World), Whole w g 5 (by8 [253, 221]) → Tabs w → Calls Tryd.prog 8 #[.slice (some ⟨g, 0, none⟩) 2 2] w fun e w' => e = .returned (.tuple #[.string ⟨#[70, 68]⟩, .int .i64 1]) ∧ Below w.heap.size w w') := by
    intro g w h1 h2
    have := name_at (.slice (some ⟨g, 0, none⟩) 2 2) [253, 221] (by decide) (getD_lt _ (by decide)) w (Rd.ofWhole h1 rfl) h2
    rw [name_p2] at this
    exact this
  have Hp4 : Hid (∀ (g : Nat) (w : World), Whole w g 5 (by8 [221, 54, 5, 171]) → Tabs w → Calls Tryd.prog 8 #[.slice (some ⟨g, 0, none⟩) 4 4] w fun e w' => e = .returned (.tuple #[.string ⟨#[76, 68, 32, 40, 73, 88, 43, 53, 41, 44, 36, 65, 66]⟩, .int .i64 4]) ∧ Below w.heap.size w w') := by
    intro g w h1 h2
    have := name_at (.slice (some ⟨g, 0, none⟩) 4 4) [221, 54, 5, 171] (by decide) (getD_lt _ (by decide)) w (Rd.ofWhole h1 rfl) h2
    rw [name_p4] at this
    exact this
  have Hp3 : Hid (∀ (w : World), Tabs w → Calls Tryd.prog 8 #[.slice none 0 0] w fun e w' => e = .returned (.tuple #[.string ⟨#[78, 79, 80]⟩, .int .i64 1]) ∧ Below w.heap.size w w') := by
    intro w h2
    have := name_at (.slice none 0 0) [] (by decide) (getD_lt _ (by simp)) w (.inl ⟨rfl, rfl⟩) h2
    rw [name_p3] at this
    exact this
  have HPa : Hid (∀ (w : World), Tabs w → Calls Tryd.prog 10 #[.int .i64 7, .int .u8 0] w fun e w' => e = .returned (.string ⟨#[]⟩) ∧ Below w.heap.size w w') := fun w h => pat_at 7 0 (by decide) w h
  have HPb : Hid (∀ (w : World), Tabs w → Calls Tryd.prog 10 #[.int .i64 (-1), .int .u8 0] w fun e w' => e = .returned (.string ⟨#[]⟩) ∧ Below w.heap.size w w') := fun w h => pat_at (-1) 0 (by decide) w h
  clear hTab
  have HM := Lib.hid (Own.start w)
  have tg1 : Hid True := trivial
  have tg2 : Hid True := trivial
  have tg3 : Hid True := trivial
  go_enter Tryd.func3, Tryd.ntmps3
  go_upto_region 5 with (first
    | ((with_reducible apply own_made (cs := by8 [221, 203, 255, 6]) (e := 5) (n := 4) HM); exact rfl; exact made_p1; (focus (go_simp; done)); exact rfl; clear tg1; intro w' g1 HM'; clear HM; have HM := HM'; clear HM'; all_goals skip)
    | ((with_reducible apply own_made (cs := by8 [253, 221]) (e := 5) (n := 2) HM); exact rfl; exact made_p2; (focus (go_simp; done)); exact rfl; clear tg2; intro w' g2 HM'; clear HM; have HM := HM'; clear HM'; all_goals skip)
    | ((with_reducible apply own_made (cs := by8 [221, 54, 5, 171]) (e := 5) (n := 4) HM); exact rfl; exact made_p4; (focus (go_simp; done)); exact rfl; clear tg3; intro w' g3 HM'; clear HM; have HM := HM'; clear HM'; all_goals skip)
    | (go_at_call 8; (first | (with_reducible refine (Hp3.out _ (Tabs.own hT HM)).mono ?_) | (with_reducible refine (Hp1.out _ _ (HM.out.at_ .z) (Tabs.own hT HM)).mono ?_) | (with_reducible refine (Hp2.out _ _ (HM.out.at_ .z) (Tabs.own hT HM)).mono ?_) | (with_reducible refine (Hp4.out _ _ (HM.out.at_ .z) (Tabs.own hT HM)).mono ?_)); rintro e w' ⟨rfl, hb⟩; have HM' := Lib.hid (HM.out.call hb); clear HM hb; have HM := HM'; clear HM')
    | (go_at_call 10; (first | (with_reducible refine (HPa.out _ (Tabs.own hT HM)).mono ?_) | (refine (HPb.out _ (Tabs.own hT HM)).mono ?_)); rintro e w' ⟨rfl, hb⟩; have HM' := Lib.hid (HM.out.call hb); clear HM hb; have HM := HM'; clear HM')
    | (go_at_call 9; (with_reducible refine (alive_any _ (Tabs.own hT HM)).mono ?_); rintro e w' ⟨rfl, hb⟩; have HM' := Lib.hid (HM.out.call hb); clear HM hb; have HM := HM'; clear HM'))
  (refine own_inorder HM ?_; (try simp only [Act.put, List.setIfInBounds_toArray, List.set_cons_zero, List.set_cons_succ]); repeat ((fail_if_success (with_reducible refine wpQuiet_nil ?_)); first | go_big_quiet_skip | (go_big_quiet_want; first | ((with_reducible apply quiet_call); exact fun w => rfl; (focus (go_simp; all_goals with_reducible rfl)); (intro wq HQ; first | with_reducible exact alive_any _ (Tabs.own hT HQ) | with_reducible exact HPa.out _ (Tabs.own hT HQ) | exact HPb.out _ (Tabs.own hT HQ)); go_big_quiet_op; go_big_quiet_on) | (go_big_quiet_op; go_big_quiet_on) | (go_big_quiet_op; refine ⟨_, fun _ _ => rfl, ?_⟩; go_big_quiet_on))))
  refine wpQuiet_nil ?_
  intro w' HM'
  clear HM; have HM := HM'; clear HM'
  go_wp2_with fail
  go_ret
  exact ⟨rfl, Own.fin HM⟩
end Go.Proofs.YtaiceidmcelapaaDoor
