/-
  Tick of package regs and of the document, each by one contract.
-/
import Derived.Laws.BitsAll
import Derived.Test.YthehpkhhoimecaaDoorRegKinds
namespace Go.Proofs.YthehpkhhoimecaaDoor
open Go.RowKit

theorem tick_bits (x : Nat) (h : x < 256) : (x &&& 128 ||| ((x + 1) % 256 &&& 127)) = x / 128 * 128 + (x % 128 + 1) % 128 ∧ x &&& 128 < 256 ∧ (x + 1) % 256 &&& 127 < 256 := by
  refine ⟨?_, Nat.lt_of_le_of_lt Nat.and_le_left h, Nat.lt_of_le_of_lt Nat.and_le_left (Nat.mod_lt _ (by omega))⟩
  exact Nat.eq_of_beq_eq_true (allB_at (show allB 256 (fun x => Nat.beq (Nat.lor (Nat.land x 128) (Nat.land (Nat.mod (Nat.add x 1) 256) 127)) (Nat.add (Nat.mul (Nat.div x 128) 128) (Nat.mod (Nat.add (Nat.mod x 128) 1) 128))) = true by decide +kernel) x h)
set_option maxRecDepth 100000 in
set_option maxHeartbeats 1600000 in
theorem tick_at (r : Rg) (hr : r.r < 256) (w : World) : Calls Tryd.prog 8 #[r.v] w fun e w' => e = .returned r.tick.v ∧ Below w.heap.size w w' := by
  obtain ⟨x, hx⟩ : ∃ x, x = r.r := ⟨_, rfl⟩
  obtain ⟨C, hC⟩ : ∃ C, C = r.r / 128 * 128 + (r.r % 128 + 1) % 128 := ⟨_, rfl⟩
  have ht : r.tick = { r with r := C } := by unfold Rg.tick; rw [hC]
  rw [ht]
  have HX : (r.cells[22]?) = some (.int .u8 (x : Int)) := by rw [hx]; rfl
  have HC := Lib.hid HX
  rw [← hx] at hC hr
  clear hx ht HX
  obtain ⟨b1, b2, b3⟩ := tick_bits x hr
  obtain ⟨A, hA⟩ : ∃ A, x &&& 128 = A := ⟨_, rfl⟩
  obtain ⟨B, hB⟩ : ∃ B, (x + 1) % 256 &&& 127 = B := ⟨_, rfl⟩
  rw [hA] at b1 b2
  rw [hB] at b1 b3
  have e1 : bits .and .u8 (x : Int) 128 = (A : Int) := by rw [u8_and x 128 (by omega) (by omega) (by omega) (by omega), Int.toNat_natCast, ← hA]; rfl
  obtain ⟨y, hy⟩ : ∃ y, y = (x + 1) % 256 := ⟨_, rfl⟩
  have e2 : ((x : Int) + 1) % 256 = (y : Int) := by omega
  have e3 : bits .and .u8 (y : Int) 127 = (B : Int) := by rw [u8_and y 127 (by omega) (by omega) (by omega) (by omega), Int.toNat_natCast, ← hB, ← hy]; rfl
  have e4 : bits .or .u8 (A : Int) (B : Int) = (C : Int) := by rw [u8_or_nat A B b2 b3, b1, hC]
  have hx2 : (x : Int) < 256 := by omega
  clear hr hC hA hB hy b1 b2 b3
  have HM := Lib.hid (Own.start w)
  have tg1 : Hid True := trivial
  have tg2 : Hid True := trivial
  go_enter Tryd.func8, Tryd.ntmps8
  go_wp2_with (first
    | ((with_reducible apply own_box HM); exact rfl; (conv => lhs; whnf); exact rfl; exact rfl; (first | (clear tg1; intro w' g1 HM') | (clear tg2; intro w' g2 HM') | (clear tg3; intro w' g3 HM') | (clear tg4; intro w' g4 HM') | intro w' g' HM'); clear HM; have HM := HM'; clear HM'; all_goals skip) | ((with_reducible apply own_alloc HM); exact rfl; (with_reducible exact zeroR); exact rfl; (first | (clear tg1; intro w' g1 HM') | (clear tg2; intro w' g2 HM') | (clear tg3; intro w' g3 HM') | (clear tg4; intro w' g4 HM') | intro w' g' HM'); clear HM; have HM := HM'; clear HM'; all_goals skip) | ((with_reducible apply own_row HM); exact rfl; exact rfl; exact aggR; (first | with_reducible exact .z | with_reducible exact .s .z | with_reducible exact .s (.s .z) | with_reducible exact .s (.s (.s .z)) | with_reducible exact .s (.s (.s (.s .z))) | with_reducible exact .s (.s (.s (.s (.s .z))))); exact rfl; (first | exact Rg.cells_length _ | exact rfl); all_goals skip) | ((with_reducible apply own_lay HM); exact rfl; exact rfl; exact rfl; (first | with_reducible exact .z | with_reducible exact .s .z | with_reducible exact .s (.s .z) | with_reducible exact .s (.s (.s .z)) | with_reducible exact .s (.s (.s (.s .z))) | with_reducible exact .s (.s (.s (.s (.s .z))))); (first | with_reducible exact .z | with_reducible exact .s .z | with_reducible exact .s (.s .z) | with_reducible exact .s (.s (.s .z)) | with_reducible exact .s (.s (.s (.s .z))) | with_reducible exact .s (.s (.s (.s (.s .z))))); exact aggR.size; (first | exact Rg.cells_length _ | exact rfl); (first | exact Rg.cells_length _ | exact rfl); (first | exact Rg.one1 _ | exact rfl); exact rfl; exact rfl; intro w' HM'; clear HM; have HM := HM'; clear HM'; all_goals skip) | ((with_reducible apply own_put HM); exact rfl; exact rfl; (conv => lhs; whnf); (first | with_reducible exact .z | with_reducible exact .s .z | with_reducible exact .s (.s .z) | with_reducible exact .s (.s (.s .z)) | with_reducible exact .s (.s (.s (.s .z))) | with_reducible exact .s (.s (.s (.s (.s .z))))); (first | with_reducible exact .z | with_reducible exact .s .z | with_reducible exact .s (.s .z) | with_reducible exact .s (.s (.s .z)) | with_reducible exact .s (.s (.s (.s .z))) | with_reducible exact .s (.s (.s (.s (.s .z))))); (first | (with_reducible exact oneU8.size) | (with_reducible exact oneU16.size) | (with_reducible exact oneBool.size) | (with_reducible exact oneInt.size)); exact rfl; exact rfl; (show (_ : Nat) < 29; decide); exact rfl; intro w' HM'; clear HM; have HM := HM'; clear HM'; all_goals skip)
    | ((with_reducible apply own_get HM); exact rfl; exact rfl; exact oneU8; (first | exact .z | exact .s .z); exact HC.out; exact rfl; all_goals skip))
  refine bodyPost_ret (v := .agg (r.cells.set 22 (.int .u8 (C : Int))).toArray) (own_results HM Tryd.results8 _ rfl (by first | exact .z | exact .s .z) aggR) rfl ⟨rfl, Own.fin HM⟩
set_option maxRecDepth 100000 in
set_option maxHeartbeats 1600000 in
theorem rtick_at (r : Rg) (hr : r.r < 256) (w : World) : Calls Tryd.prog 9 #[r.v] w fun e w' => e = .returned r.tick.v ∧ Below w.heap.size w w' := by
  obtain ⟨x, hx⟩ : ∃ x, x = r.r := ⟨_, rfl⟩
  obtain ⟨C, hC⟩ : ∃ C, C = r.r / 128 * 128 + (r.r % 128 + 1) % 128 := ⟨_, rfl⟩
  have ht : r.tick = { r with r := C } := by unfold Rg.tick; rw [hC]
  rw [ht]
  have HX : (r.cells[22]?) = some (.int .u8 (x : Int)) := by rw [hx]; rfl
  have HC := Lib.hid HX
  rw [← hx] at hC hr
  clear hx ht HX
  have e1 : (x : Int) / 128 * 128 + ((x : Int) + 1) % 128 = (C : Int) := by omega
  have hx2 : (x : Int) < 256 := by omega
  clear hr hC
  have HM := Lib.hid (Own.start w)
  have tg1 : Hid True := trivial
  have tg2 : Hid True := trivial
  go_enter Tryd.func9, Tryd.ntmps9
  go_wp2_with (first
    | ((with_reducible apply own_box HM); exact rfl; (conv => lhs; whnf); exact rfl; exact rfl; (first | (clear tg1; intro w' g1 HM') | (clear tg2; intro w' g2 HM') | (clear tg3; intro w' g3 HM') | (clear tg4; intro w' g4 HM') | intro w' g' HM'); clear HM; have HM := HM'; clear HM'; all_goals skip) | ((with_reducible apply own_alloc HM); exact rfl; (with_reducible exact zeroR); exact rfl; (first | (clear tg1; intro w' g1 HM') | (clear tg2; intro w' g2 HM') | (clear tg3; intro w' g3 HM') | (clear tg4; intro w' g4 HM') | intro w' g' HM'); clear HM; have HM := HM'; clear HM'; all_goals skip) | ((with_reducible apply own_row HM); exact rfl; exact rfl; exact aggR; (first | with_reducible exact .z | with_reducible exact .s .z | with_reducible exact .s (.s .z) | with_reducible exact .s (.s (.s .z)) | with_reducible exact .s (.s (.s (.s .z))) | with_reducible exact .s (.s (.s (.s (.s .z))))); exact rfl; (first | exact Rg.cells_length _ | exact rfl); all_goals skip) | ((with_reducible apply own_lay HM); exact rfl; exact rfl; exact rfl; (first | with_reducible exact .z | with_reducible exact .s .z | with_reducible exact .s (.s .z) | with_reducible exact .s (.s (.s .z)) | with_reducible exact .s (.s (.s (.s .z))) | with_reducible exact .s (.s (.s (.s (.s .z))))); (first | with_reducible exact .z | with_reducible exact .s .z | with_reducible exact .s (.s .z) | with_reducible exact .s (.s (.s .z)) | with_reducible exact .s (.s (.s (.s .z))) | with_reducible exact .s (.s (.s (.s (.s .z))))); exact aggR.size; (first | exact Rg.cells_length _ | exact rfl); (first | exact Rg.cells_length _ | exact rfl); (first | exact Rg.one1 _ | exact rfl); exact rfl; exact rfl; intro w' HM'; clear HM; have HM := HM'; clear HM'; all_goals skip) | ((with_reducible apply own_put HM); exact rfl; exact rfl; (conv => lhs; whnf); (first | with_reducible exact .z | with_reducible exact .s .z | with_reducible exact .s (.s .z) | with_reducible exact .s (.s (.s .z)) | with_reducible exact .s (.s (.s (.s .z))) | with_reducible exact .s (.s (.s (.s (.s .z))))); (first | with_reducible exact .z | with_reducible exact .s .z | with_reducible exact .s (.s .z) | with_reducible exact .s (.s (.s .z)) | with_reducible exact .s (.s (.s (.s .z))) | with_reducible exact .s (.s (.s (.s (.s .z))))); (first | (with_reducible exact oneU8.size) | (with_reducible exact oneU16.size) | (with_reducible exact oneBool.size) | (with_reducible exact oneInt.size)); exact rfl; exact rfl; (show (_ : Nat) < 29; decide); exact rfl; intro w' HM'; clear HM; have HM := HM'; clear HM'; all_goals skip)
    | ((with_reducible apply own_get HM); exact rfl; exact rfl; exact oneU8; (first | exact .z | exact .s .z); exact HC.out; exact rfl; all_goals skip))
  refine bodyPost_ret (v := .agg (r.cells.set 22 (.int .u8 (C : Int))).toArray) (own_results HM Tryd.results9 _ rfl (by first | exact .z | exact .s .z) aggR) rfl ⟨rfl, Own.fin HM⟩

end Go.Proofs.YthehpkhhoimecaaDoor
