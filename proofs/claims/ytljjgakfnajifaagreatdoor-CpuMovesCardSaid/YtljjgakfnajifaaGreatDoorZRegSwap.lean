import Derived.Test.YtljjgakfnajifaaGreatDoorZBase
import Derived.Deep.Cut
import Derived.Deep.CutRange
namespace Go.Proofs.YtljjgakfnajifaaGreatDoor
open Go.RowKit
def swapPtrs (g : Nat) : List Value := [.pointer (some ⟨g, 0, none⟩), .pointer (some ⟨g, 1, none⟩), .pointer (some ⟨g, 2, none⟩), .pointer (some ⟨g, 3, none⟩), .pointer (some ⟨g, 4, none⟩), .pointer (some ⟨g, 5, none⟩), .pointer (some ⟨g, 6, none⟩), .pointer (some ⟨g, 7, none⟩)]
theorem aggPtrs : Agg Tryz.prog 193 8 := ⟨⟨_, Tryz.underlying193, rfl⟩, by kernel_rfl⟩
theorem zeroPtrs : Zero Tryz.prog 193 [.pointer none, .pointer none, .pointer none, .pointer none, .pointer none, .pointer none, .pointer none, .pointer none] := ⟨.agg #[.pointer none, .pointer none, .pointer none, .pointer none, .pointer none, .pointer none, .pointer none, .pointer none], fun _ => by kernel_rfl, rfl⟩
theorem onePtr : One Tryz.prog 185 := ⟨⟨_, Tryz.underlying185, rfl⟩, by kernel_rfl⟩
set_option maxRecDepth 100000 in
set_option maxHeartbeats 6400000 in
theorem swap_false (r : Rg) (w : World) : Calls Tryz.prog 210 #[r.v, .bool false] w fun e w' => e = .returned (r.swap false).v ∧ Below w.heap.size w w' := by
  have tg3 : Hid True := trivial
  have HM := Lib.hid (Own.start w)
  have tg1 : Hid True := trivial
  have tg2 : Hid True := trivial
  go_enter Tryz.func210, Tryz.ntmps210
  go_wp2_with (first
    | ((with_reducible apply own_box HM); exact rfl; (conv => lhs; whnf); exact rfl; exact rfl; (first | (clear tg1 HM; intro w' g1 HM) | (clear tg2 HM; intro w' g2 HM) | (clear tg3 HM; intro w' g3 HM) | (clear tg4 HM; intro w' g4 HM) | (clear HM; intro w' g' HM))) | ((with_reducible apply own_alloc HM); exact rfl; (first | (with_reducible exact zeroPtrs)); exact rfl; (first | (clear tg1 HM; intro w' g1 HM) | (clear tg2 HM; intro w' g2 HM) | (clear tg3 HM; intro w' g3 HM) | (clear tg4 HM; intro w' g4 HM) | (clear HM; intro w' g' HM))) | ((with_reducible apply own_cell HM); exact rfl; exact rfl; (first | (with_reducible exact onePtr)); exact sS; exact dS; exact rfl) | ((with_reducible apply own_load HM); exact rfl; exact rfl; (first | (with_reducible exact aggPtrs)); exact sS; exact dS; exact tS; exact rfl) | ((with_reducible apply own_store HM); exact rfl; exact rfl; (conv => lhs; whnf); exact rfl; exact sS; exact vS; exact sS; (first | (with_reducible exact (aggPtrs).size) | (with_reducible exact (onePtr).size)); exact rfl; exact rfl; exact rfl; exact rfl; clear HM; intro w' HM) | ((with_reducible apply own_alloc HM); exact rfl; (with_reducible exact zeroR); exact rfl; (first | (clear tg1 HM; intro w' g1 HM) | (clear tg2 HM; intro w' g2 HM) | (clear tg3 HM; intro w' g3 HM) | (clear tg4 HM; intro w' g4 HM) | (clear HM; intro w' g' HM))))
  change Hid (Own w _ [(g3, 193, swapPtrs g1), (g2, 25, rg0.cells), (g1, 25, r.cells)]) at HM
  go_loopw [8] (fun i wr => ∃ k : Nat, 0 ≤ k ∧ k ≤ 2 ∧ i = .int .i64 (k : Int) ∧ Hid (Own w wr [(g3, 193, swapPtrs g1), (g2, 25, rg0.cells), (g1, 25, (r.swapTo 0 (k - 0)).cells)])) (fun i _ => 2 - (intOf i).toNat)
  case atStart => exact ⟨0, by omega, by omega, rfl, HM⟩
  case round =>
    clear HM
    obtain ⟨k, hk0, hk, rfl, HM⟩ := hrel
    rcases (show k = 0 ∨ k = 1 ∨ k = 2 by omega) with rfl | rfl | rfl
    · obtain ⟨q, hq⟩ : ∃ q, q = r.swapTo 0 (0 - 0) := ⟨_, rfl⟩
      rw [← hq] at HM
      have cp := ((HM.out.at_ .z).at_ 0).trans (show _ = some (Value.pointer (some ⟨g1, 0, none⟩)) from rfl)
      have cr := ((HM.out.at_ (.s (.s .z))).at_ 0).trans (show _ = some (Value.int .u8 (q.a : Int)) from rfl)
      have ca := ((HM.out.at_ (.s (.s .z))).at_ 8).trans (show _ = some (Value.int .u8 (q.x0 : Int)) from rfl)
      have fr := (HM.out.at_ (.s (.s .z))).free 0
      have fa := (HM.out.at_ (.s (.s .z))).free 8
      have HM2 := Lib.hid ((HM.out.of_cell 0 (v := .int .u8 (q.x0 : Int)) (.s (.s .z))).of_cell 8 (v := .int .u8 (q.a : Int)) (.s (.s .z))).drew
      rw [hq] at cr ca
      clear HM
      go_wp2_with fail
      go_region
      go_wp2_with fail
      go_roundw
      case rel => exact ⟨1, by omega, by omega, by go_num, by rw [hq] at HM2; exact HM2⟩
      case measure => simp [intOf]
    · obtain ⟨q, hq⟩ : ∃ q, q = r.swapTo 0 (1 - 0) := ⟨_, rfl⟩
      rw [← hq] at HM
      have cp := ((HM.out.at_ .z).at_ 1).trans (show _ = some (Value.pointer (some ⟨g1, 1, none⟩)) from rfl)
      have cr := ((HM.out.at_ (.s (.s .z))).at_ 1).trans (show _ = some (Value.int .u8 (q.f : Int)) from rfl)
      have ca := ((HM.out.at_ (.s (.s .z))).at_ 9).trans (show _ = some (Value.int .u8 (q.x1 : Int)) from rfl)
      have fr := (HM.out.at_ (.s (.s .z))).free 1
      have fa := (HM.out.at_ (.s (.s .z))).free 9
      have HM2 := Lib.hid ((HM.out.of_cell 1 (v := .int .u8 (q.x1 : Int)) (.s (.s .z))).of_cell 9 (v := .int .u8 (q.f : Int)) (.s (.s .z))).drew
      rw [hq] at cr ca
      clear HM
      go_wp2_with fail
      go_region
      go_wp2_with fail
      go_roundw
      case rel => exact ⟨2, by omega, by omega, by go_num, by rw [hq] at HM2; exact HM2⟩
      case measure => simp [intOf]
    · go_wp2_with (first | ((with_reducible apply own_row HM); exact rfl; exact rfl; exact aggR; exact sS; exact rfl; exact lS) | ((with_reducible apply own_lay HM); exact rfl; exact rfl; exact rfl; exact sS; exact sS; exact aggR.size; exact lS; exact lS; (first | exact Rg.one1 _ | exact rfl); exact rfl; exact rfl; clear HM; intro w' HM))
      refine bodyPost_ret (v := .agg (r.swapTo 0 2).cells.toArray) (own_results HM Tryz.results210 _ rfl (by first | exact .z | exact .s .z) aggR) rfl ⟨rfl, Own.fin HM⟩
set_option maxRecDepth 100000 in
set_option maxHeartbeats 6400000 in
theorem swap_true (r : Rg) (w : World) : Calls Tryz.prog 210 #[r.v, .bool true] w fun e w' => e = .returned (r.swap true).v ∧ Below w.heap.size w w' := by
  have tg3 : Hid True := trivial
  have HM := Lib.hid (Own.start w)
  have tg1 : Hid True := trivial
  have tg2 : Hid True := trivial
  go_enter Tryz.func210, Tryz.ntmps210
  go_wp2_with (first
    | ((with_reducible apply own_box HM); exact rfl; (conv => lhs; whnf); exact rfl; exact rfl; (first | (clear tg1 HM; intro w' g1 HM) | (clear tg2 HM; intro w' g2 HM) | (clear tg3 HM; intro w' g3 HM) | (clear tg4 HM; intro w' g4 HM) | (clear HM; intro w' g' HM))) | ((with_reducible apply own_alloc HM); exact rfl; (first | (with_reducible exact zeroPtrs)); exact rfl; (first | (clear tg1 HM; intro w' g1 HM) | (clear tg2 HM; intro w' g2 HM) | (clear tg3 HM; intro w' g3 HM) | (clear tg4 HM; intro w' g4 HM) | (clear HM; intro w' g' HM))) | ((with_reducible apply own_cell HM); exact rfl; exact rfl; (first | (with_reducible exact onePtr)); exact sS; exact dS; exact rfl) | ((with_reducible apply own_load HM); exact rfl; exact rfl; (first | (with_reducible exact aggPtrs)); exact sS; exact dS; exact tS; exact rfl) | ((with_reducible apply own_store HM); exact rfl; exact rfl; (conv => lhs; whnf); exact rfl; exact sS; exact vS; exact sS; (first | (with_reducible exact (aggPtrs).size) | (with_reducible exact (onePtr).size)); exact rfl; exact rfl; exact rfl; exact rfl; clear HM; intro w' HM) | ((with_reducible apply own_alloc HM); exact rfl; (with_reducible exact zeroR); exact rfl; (first | (clear tg1 HM; intro w' g1 HM) | (clear tg2 HM; intro w' g2 HM) | (clear tg3 HM; intro w' g3 HM) | (clear tg4 HM; intro w' g4 HM) | (clear HM; intro w' g' HM))))
  change Hid (Own w _ [(g3, 193, swapPtrs g1), (g2, 25, rg0.cells), (g1, 25, r.cells)]) at HM
  go_loopw [8] (fun i wr => ∃ k : Nat, 2 ≤ k ∧ k ≤ 8 ∧ i = .int .i64 (k : Int) ∧ Hid (Own w wr [(g3, 193, swapPtrs g1), (g2, 25, rg0.cells), (g1, 25, (r.swapTo 2 (k - 2)).cells)])) (fun i _ => 8 - (intOf i).toNat)
  case atStart => exact ⟨2, by omega, by omega, rfl, HM⟩
  case round =>
    clear HM
    obtain ⟨k, hk0, hk, rfl, HM⟩ := hrel
    rcases (show k = 2 ∨ k = 3 ∨ k = 4 ∨ k = 5 ∨ k = 6 ∨ k = 7 ∨ k = 8 by omega) with rfl | rfl | rfl | rfl | rfl | rfl | rfl
    · obtain ⟨q, hq⟩ : ∃ q, q = r.swapTo 2 (2 - 2) := ⟨_, rfl⟩
      rw [← hq] at HM
      have cp := ((HM.out.at_ .z).at_ 2).trans (show _ = some (Value.pointer (some ⟨g1, 2, none⟩)) from rfl)
      have cr := ((HM.out.at_ (.s (.s .z))).at_ 2).trans (show _ = some (Value.int .u8 (q.b : Int)) from rfl)
      have ca := ((HM.out.at_ (.s (.s .z))).at_ 10).trans (show _ = some (Value.int .u8 (q.x2 : Int)) from rfl)
      have fr := (HM.out.at_ (.s (.s .z))).free 2
      have fa := (HM.out.at_ (.s (.s .z))).free 10
      have HM2 := Lib.hid ((HM.out.of_cell 2 (v := .int .u8 (q.x2 : Int)) (.s (.s .z))).of_cell 10 (v := .int .u8 (q.b : Int)) (.s (.s .z))).drew
      rw [hq] at cr ca
      clear HM
      go_wp2_with fail
      go_region
      go_wp2_with fail
      go_roundw
      case rel => exact ⟨3, by omega, by omega, by go_num, by rw [hq] at HM2; exact HM2⟩
      case measure => simp [intOf]
    · obtain ⟨q, hq⟩ : ∃ q, q = r.swapTo 2 (3 - 2) := ⟨_, rfl⟩
      rw [← hq] at HM
      have cp := ((HM.out.at_ .z).at_ 3).trans (show _ = some (Value.pointer (some ⟨g1, 3, none⟩)) from rfl)
      have cr := ((HM.out.at_ (.s (.s .z))).at_ 3).trans (show _ = some (Value.int .u8 (q.c : Int)) from rfl)
      have ca := ((HM.out.at_ (.s (.s .z))).at_ 11).trans (show _ = some (Value.int .u8 (q.x3 : Int)) from rfl)
      have fr := (HM.out.at_ (.s (.s .z))).free 3
      have fa := (HM.out.at_ (.s (.s .z))).free 11
      have HM2 := Lib.hid ((HM.out.of_cell 3 (v := .int .u8 (q.x3 : Int)) (.s (.s .z))).of_cell 11 (v := .int .u8 (q.c : Int)) (.s (.s .z))).drew
      rw [hq] at cr ca
      clear HM
      go_wp2_with fail
      go_region
      go_wp2_with fail
      go_roundw
      case rel => exact ⟨4, by omega, by omega, by go_num, by rw [hq] at HM2; exact HM2⟩
      case measure => simp [intOf]
    · obtain ⟨q, hq⟩ : ∃ q, q = r.swapTo 2 (4 - 2) := ⟨_, rfl⟩
      rw [← hq] at HM
      have cp := ((HM.out.at_ .z).at_ 4).trans (show _ = some (Value.pointer (some ⟨g1, 4, none⟩)) from rfl)
      have cr := ((HM.out.at_ (.s (.s .z))).at_ 4).trans (show _ = some (Value.int .u8 (q.d : Int)) from rfl)
      have ca := ((HM.out.at_ (.s (.s .z))).at_ 12).trans (show _ = some (Value.int .u8 (q.x4 : Int)) from rfl)
      have fr := (HM.out.at_ (.s (.s .z))).free 4
      have fa := (HM.out.at_ (.s (.s .z))).free 12
      have HM2 := Lib.hid ((HM.out.of_cell 4 (v := .int .u8 (q.x4 : Int)) (.s (.s .z))).of_cell 12 (v := .int .u8 (q.d : Int)) (.s (.s .z))).drew
      rw [hq] at cr ca
      clear HM
      go_wp2_with fail
      go_region
      go_wp2_with fail
      go_roundw
      case rel => exact ⟨5, by omega, by omega, by go_num, by rw [hq] at HM2; exact HM2⟩
      case measure => simp [intOf]
    · obtain ⟨q, hq⟩ : ∃ q, q = r.swapTo 2 (5 - 2) := ⟨_, rfl⟩
      rw [← hq] at HM
      have cp := ((HM.out.at_ .z).at_ 5).trans (show _ = some (Value.pointer (some ⟨g1, 5, none⟩)) from rfl)
      have cr := ((HM.out.at_ (.s (.s .z))).at_ 5).trans (show _ = some (Value.int .u8 (q.e : Int)) from rfl)
      have ca := ((HM.out.at_ (.s (.s .z))).at_ 13).trans (show _ = some (Value.int .u8 (q.x5 : Int)) from rfl)
      have fr := (HM.out.at_ (.s (.s .z))).free 5
      have fa := (HM.out.at_ (.s (.s .z))).free 13
      have HM2 := Lib.hid ((HM.out.of_cell 5 (v := .int .u8 (q.x5 : Int)) (.s (.s .z))).of_cell 13 (v := .int .u8 (q.e : Int)) (.s (.s .z))).drew
      rw [hq] at cr ca
      clear HM
      go_wp2_with fail
      go_region
      go_wp2_with fail
      go_roundw
      case rel => exact ⟨6, by omega, by omega, by go_num, by rw [hq] at HM2; exact HM2⟩
      case measure => simp [intOf]
    · obtain ⟨q, hq⟩ : ∃ q, q = r.swapTo 2 (6 - 2) := ⟨_, rfl⟩
      rw [← hq] at HM
      have cp := ((HM.out.at_ .z).at_ 6).trans (show _ = some (Value.pointer (some ⟨g1, 6, none⟩)) from rfl)
      have cr := ((HM.out.at_ (.s (.s .z))).at_ 6).trans (show _ = some (Value.int .u8 (q.h : Int)) from rfl)
      have ca := ((HM.out.at_ (.s (.s .z))).at_ 14).trans (show _ = some (Value.int .u8 (q.x6 : Int)) from rfl)
      have fr := (HM.out.at_ (.s (.s .z))).free 6
      have fa := (HM.out.at_ (.s (.s .z))).free 14
      have HM2 := Lib.hid ((HM.out.of_cell 6 (v := .int .u8 (q.x6 : Int)) (.s (.s .z))).of_cell 14 (v := .int .u8 (q.h : Int)) (.s (.s .z))).drew
      rw [hq] at cr ca
      clear HM
      go_wp2_with fail
      go_region
      go_wp2_with fail
      go_roundw
      case rel => exact ⟨7, by omega, by omega, by go_num, by rw [hq] at HM2; exact HM2⟩
      case measure => simp [intOf]
    · obtain ⟨q, hq⟩ : ∃ q, q = r.swapTo 2 (7 - 2) := ⟨_, rfl⟩
      rw [← hq] at HM
      have cp := ((HM.out.at_ .z).at_ 7).trans (show _ = some (Value.pointer (some ⟨g1, 7, none⟩)) from rfl)
      have cr := ((HM.out.at_ (.s (.s .z))).at_ 7).trans (show _ = some (Value.int .u8 (q.l : Int)) from rfl)
      have ca := ((HM.out.at_ (.s (.s .z))).at_ 15).trans (show _ = some (Value.int .u8 (q.x7 : Int)) from rfl)
      have fr := (HM.out.at_ (.s (.s .z))).free 7
      have fa := (HM.out.at_ (.s (.s .z))).free 15
      have HM2 := Lib.hid ((HM.out.of_cell 7 (v := .int .u8 (q.x7 : Int)) (.s (.s .z))).of_cell 15 (v := .int .u8 (q.l : Int)) (.s (.s .z))).drew
      rw [hq] at cr ca
      clear HM
      go_wp2_with fail
      go_region
      go_wp2_with fail
      go_roundw
      case rel => exact ⟨8, by omega, by omega, by go_num, by rw [hq] at HM2; exact HM2⟩
      case measure => simp [intOf]
    · go_wp2_with (first | ((with_reducible apply own_row HM); exact rfl; exact rfl; exact aggR; exact sS; exact rfl; exact lS) | ((with_reducible apply own_lay HM); exact rfl; exact rfl; exact rfl; exact sS; exact sS; exact aggR.size; exact lS; exact lS; (first | exact Rg.one1 _ | exact rfl); exact rfl; exact rfl; clear HM; intro w' HM))
      refine bodyPost_ret (v := .agg (r.swapTo 2 6).cells.toArray) (own_results HM Tryz.results210 _ rfl (by first | exact .z | exact .s .z) aggR) rfl ⟨rfl, Own.fin HM⟩
end Go.Proofs.YtljjgakfnajifaaGreatDoor
