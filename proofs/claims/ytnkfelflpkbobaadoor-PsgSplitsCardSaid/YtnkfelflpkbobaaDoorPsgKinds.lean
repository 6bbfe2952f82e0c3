/-
  What the types are that sounds are made of: how many cells, and their zero values; the table of volumes.
-/
import Derived.Test.YtnkfelflpkbobaaDoorNoiseRefStep
import Derived.Test.YtnkfelflpkbobaaDoorPToneRun
namespace Go.Proofs.YtnkfelflpkbobaaDoor
open Go.RowKit

theorem aggT : Agg Tryd.prog 23 3 := ⟨⟨_, Tryd.underlying23, rfl⟩, by kernel_rfl⟩
theorem aggT3 : Agg Tryd.prog 24 9 := ⟨⟨_, Tryd.underlying24, rfl⟩, by kernel_rfl⟩
theorem aggQ : Agg Tryd.prog 28 4 := ⟨⟨_, Tryd.underlying28, rfl⟩, by kernel_rfl⟩
theorem aggS : Agg Tryd.prog 30 18 := ⟨⟨_, Tryd.underlying30, rfl⟩, by kernel_rfl⟩
theorem aggI4 : Agg Tryd.prog 42 4 := ⟨⟨_, Tryd.underlying42, rfl⟩, by kernel_rfl⟩
theorem aggA : Agg Tryd.prog 38 2 := ⟨⟨_, Tryd.underlying38, rfl⟩, by kernel_rfl⟩
def zeroSL : List Value := [.int .i64 0, .int .i64 0, .bool false, .int .i64 0, .int .i64 0, .bool false, .int .i64 0, .int .i64 0, .bool false, .int .u8 0, .int .i64 0, .bool false, .int .u16 0, .int .u8 0, .int .u8 0, .int .u8 0, .int .u8 0, .int .u8 0]
theorem zeroS : Zero Tryd.prog 30 [.int .i64 0, .int .i64 0, .bool false, .int .i64 0, .int .i64 0, .bool false, .int .i64 0, .int .i64 0, .bool false, .int .u8 0, .int .i64 0, .bool false, .int .u16 0, .int .u8 0, .int .u8 0, .int .u8 0, .int .u8 0, .int .u8 0] := ⟨.agg zeroSL.toArray, fun _ => by kernel_rfl, rfl⟩
theorem zeroT : Zero Tryd.prog 23 [.int .i64 0, .int .i64 0, .bool false] := ⟨.agg #[.int .i64 0, .int .i64 0, .bool false], fun _ => by kernel_rfl, rfl⟩
theorem zeroA : Zero Tryd.prog 38 [.int .i64 0, .int .i64 0] := ⟨.agg #[.int .i64 0, .int .i64 0], fun _ => by kernel_rfl, rfl⟩

/-- the volumes, by the quiet's lowest four bits -/
def vols : List Int := [8191, 6507, 5168, 4105, 3261, 2590, 2057, 1642, 1298, 1031, 819, 650, 516, 410, 326, 0]
def volOf (q : Int) : Int := vols.getD (q % 16).toNat 0
theorem vol_of (q : Int) (j : Nat) (h : q % 16 = j) : volOf q = vols.getD j 0 := by unfold volOf; rw [h]; rfl
theorem sixteen (q : Int) : ∃ j : Nat, j < 16 ∧ q % 16 = j := ⟨(q % 16).toNat, by omega, by omega⟩
theorem volOf_bd (q : Int) : 0 ≤ volOf q ∧ volOf q ≤ 8191 := by
  obtain ⟨j, hj, e⟩ := sixteen q
  rw [vol_of q j e]
  have : ∀ j, j < 16 → 0 ≤ vols.getD j 0 ∧ vols.getD j 0 ≤ 8191 := by decide
  exact this j hj
theorem low4 (q : Int) (h0 : 0 ≤ q) (h1 : q < 256) : bits .and .u8 q 15 = q % 16 := by go_bits2

/-- the table lies where the program's start laid it -/
def Tab (w : World) : Prop := ∀ j : Nat, j < 16 → w.cell? ⟨0, j, none⟩ = some (.int .i64 (vols.getD j 0))
theorem Tab.under {B : Nat} {w w' : World} (h : Tab w) (hb : Below B w w') (hB : w.heap.size ≤ B) : Tab w' := fun j hj =>
  (hb.cell (p := ⟨0, j, none⟩) (Nat.lt_of_lt_of_le (block_lt_of_cell (h j hj)) hB)).trans (h j hj)
theorem Tab.own {w0 w : World} {l : List (Nat × TypeId × List Value)} (h : Hid (Tab w0)) (HM : Hid (Own w0 w l)) : Tab w := h.out.under HM.out.below (Nat.le_refl _)

set_option maxHeartbeats 800000 in
theorem volume_at (q : Int) (h0 : 0 ≤ q) (h1 : q < 256) (V : Int) (hV : Hid (volOf q = V)) (w : World) (hT : Tab w) :
    Calls Tryd.prog 13 #[.int .u8 q] w fun e w' => e = .returned (.int .i64 V) ∧ w = w' := by
  obtain ⟨j, hj, e⟩ := sixteen q
  have e1 : bits .and .u8 q 15 = (j : Int) := by rw [low4 q h0 h1, e]
  have c := hT j hj
  rw [← vol_of q j e, hV.out] at c
  clear hV e hT
  go_enter Tryd.func13, Tryd.ntmps13
  go_wp2
  go_ret
  exact ⟨rfl, rfl⟩

theorem rvolume_at (q : Int) (h0 : 0 ≤ q) (_h1 : q < 256) (V : Int) (hV : Hid (volOf q = V)) (w : World) :
    Calls Tryd.prog 33 #[.int .u8 q] w fun e w' => e = .returned (.int .i64 V) ∧ w = w' := by
  obtain ⟨j, hj, e⟩ := sixteen q
  have e1 : q.tmod 16 = (j : Int) := by rw [Int.tmod_eq_emod_of_nonneg h0, e]
  have e2 := Lib.hid (vol_of q j e)
  rw [hV.out] at e2
  clear hV e
  have idx : ∀ w : World, (Instr.index 52 (.agg #[.int .i64 8191, .int .i64 6507, .int .i64 5168, .int .i64 4105, .int .i64 3261, .int .i64 2590, .int .i64 2057, .int .i64 1642, .int .i64 1298, .int .i64 1031, .int .i64 819, .int .i64 650, .int .i64 516, .int .i64 410, .int .i64 326, .int .i64 0]) (.int .u8 j)).run Tryd.prog w = .ok (.int .i64 V) w := by
    rw [e2.out]
    clear e1 e2
    match j, hj with
    | 0, _ => intro w; kernel_rfl
    | 1, _ => intro w; kernel_rfl
    | 2, _ => intro w; kernel_rfl
    | 3, _ => intro w; kernel_rfl
    | 4, _ => intro w; kernel_rfl
    | 5, _ => intro w; kernel_rfl
    | 6, _ => intro w; kernel_rfl
    | 7, _ => intro w; kernel_rfl
    | 8, _ => intro w; kernel_rfl
    | 9, _ => intro w; kernel_rfl
    | 10, _ => intro w; kernel_rfl
    | 11, _ => intro w; kernel_rfl
    | 12, _ => intro w; kernel_rfl
    | 13, _ => intro w; kernel_rfl
    | 14, _ => intro w; kernel_rfl
    | 15, _ => intro w; kernel_rfl
    | n + 16, h => omega
  go_enter Tryd.func33, Tryd.ntmps33
  go_wp2
  go_ret
  exact ⟨rfl, rfl⟩

end Go.Proofs.YtnkfelflpkbobaaDoor
