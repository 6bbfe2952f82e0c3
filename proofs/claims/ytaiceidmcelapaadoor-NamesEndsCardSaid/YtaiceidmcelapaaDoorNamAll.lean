/-
  The example of the chapter, in either; each instruction of any page.
-/
import Derived.Test.YtaiceidmcelapaaDoorNamLaid
import Derived.Test.YtaiceidmcelapaaDoorNamOne
import Derived.Test.YtaiceidmcelapaaDoorNamName
import Derived.Test.YtaiceidmcelapaaDoorNamRef8
set_option linter.unusedSimpArgs false
set_option linter.unusedVariables false
namespace Go.Proofs.YtaiceidmcelapaaDoor
open Go.RowKit

theorem made3 (w : World) : (Instr.buildSlice 24 3 #[(0, .int .u8 33), (1, .int .u8 52), (2, .int .u8 18)]).run Tryd.prog w = .ok (.slice (some ⟨w.heap.size, 0, none⟩) 3 3) (w.alloc (.cells (by8 [33, 52, 18]).toArray 5)) := by kernel_rfl
theorem getD_lt (bs : List Nat) (h : ∀ b ∈ bs, b < 256) (i : Nat) : bs.getD i 0 < 256 := by
  rw [List.getD_eq_getElem?_getD]
  cases hq : bs[i]? with
  | none => decide
  | some x => exact h x (List.mem_of_getElem? hq)
theorem alive_name : cName [33, 52, 18] = ([76, 68, 32, 72, 76, 44, 36, 49, 50, 51, 52], 3) := by decide +kernel
theorem alive_pat : cPat 1 70 = [66, 73, 84, 32, 48, 44, 40, 72, 76, 41] := by decide +kernel
set_option maxRecDepth 100000 in
set_option maxHeartbeats 3200000 in
theorem alive_any (w : World) (hTab : Tabs w) : Calls Tryd.prog 9 #[] w fun e w' => e = .returned (.bool true) ∧ Below w.heap.size w w' := by
  have hT : Hid (Tabs w) := hTab
  have HN : Hid (∀ (v : Value) (w : World), Rd w v (by8 [33, 52, 18]) → Tabs w → Calls Tryd.prog 8 #[v] w fun e w' => e = .returned (.tuple #[.string ⟨#[76, 68, 32, 72, 76, 44, 36, 49, 50, 51, 52]⟩, .int .i64 3]) ∧ Below w.heap.size w w') := by
    intro v w h1 h2
    have := name_at v [33, 52, 18] (by decide) (getD_lt _ (by decide)) w h1 h2
    rw [alive_name] at this
    exact this
  have HP : Hid (∀ (w : World), Tabs w → Calls Tryd.prog 10 #[.int .i64 1, .int .u8 70] w fun e w' => e = .returned (.string ⟨#[66, 73, 84, 32, 48, 44, 40, 72, 76, 41]⟩) ∧ Below w.heap.size w w') := by
    intro w h2
    have := pat_at 1 70 (by decide) w h2
    rw [alive_pat] at this
    exact this
  clear hTab
  have HM := Lib.hid (Own.start w)
  have tg1 : Hid True := trivial
  go_enter Tryd.func9, Tryd.ntmps9
  go_wp2_with (first
    | ((with_reducible apply own_made (cs := by8 [33, 52, 18]) (e := 5) (n := 3) HM); exact rfl; exact made3; (focus (go_simp; done)); exact rfl; clear tg1; intro w' g1 HM'; clear HM; have HM := HM'; clear HM'; all_goals skip)
    | (go_at_call 8; refine (HN.out _ _ (Rd.ofWhole (HM.out.at_ .z) rfl) (Tabs.own hT HM)).mono ?_; rintro e w' ⟨rfl, hb⟩; have HM' := Lib.hid (HM.out.call hb); clear HM hb; have HM := HM'; clear HM')
    | (go_at_call 10; refine (HP.out _ (Tabs.own hT HM)).mono ?_; rintro e w' ⟨rfl, hb⟩; have HM' := Lib.hid (HM.out.call hb); clear HM hb; have HM := HM'; clear HM'))
  go_ret
  exact ⟨rfl, Own.fin HM⟩
set_option maxRecDepth 100000 in
set_option maxHeartbeats 3200000 in
theorem all_any (page : Int) (n : Nat) (hn : n < 256) (w : World) (hTab : Tabs w) : Calls Tryd.prog 4 #[.int .i64 page, .int .u8 (n : Int)] w fun e w' => e = .returned (.bool true) ∧ Below w.heap.size w w' := by
  have hT : Hid (Tabs w) := hTab
  have HP := Lib.hid (pat_at page n hn)
  have HR := Lib.hid (rpat_at page n hn)
  rw [← pat_eq page n hn] at HR
  obtain ⟨x, hx⟩ : ∃ x, cPat page n = x := ⟨_, rfl⟩
  rw [hx] at HP HR
  clear hTab hx
  have HM := Lib.hid (Own.start w)
  go_enter Tryd.func4, Tryd.ntmps4
  go_wp2_with (first
    | (go_at_call 9; (with_reducible refine (alive_any _ (Tabs.own hT HM)).mono ?_); rintro e w' ⟨rfl, hb⟩; have HM' := Lib.hid (HM.out.call hb); clear HM hb; have HM := HM'; clear HM')
    | (go_at_call 10; (with_reducible refine (HP.out _ (Tabs.own hT HM)).mono ?_); rintro e w' ⟨rfl, hb⟩; have HM' := Lib.hid (HM.out.call hb); clear HM hb; have HM := HM'; clear HM')
    | (go_at_call 11; (with_reducible refine (HR.out _).mono ?_); rintro e w' ⟨rfl, hb⟩; have HM' := Lib.hid (HM.out.call hb); clear HM hb; have HM := HM'; clear HM'))
  go_ret
  exact ⟨rfl, Own.fin HM⟩
end Go.Proofs.YtaiceidmcelapaaDoor
