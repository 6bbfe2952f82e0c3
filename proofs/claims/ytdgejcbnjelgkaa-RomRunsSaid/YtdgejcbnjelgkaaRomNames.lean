/-
  The law RomNames returns true, and writes nothing that was there.
-/
import Derived.Test.YtdgejcbnjelgkaaRomAlive
namespace Go.Proofs.Ytdgejcbnjelgkaa
open Go.RowKit

theorem make4194309 (w : World) : (Instr.makeSlice 25 (.int .i64 4194309) (.int .i64 4194309)).run Try.prog w = .ok (.slice (some ⟨w.heap.size, 0, none⟩) 4194309 4194309) (w.alloc (.cells (u8s (zeros 4194309)).toArray 5)) := zeros_make 4194309 (by omega) w
theorem bytes4194309 (w : World) : Bytes (w.alloc (.cells (u8s (zeros 4194309)).toArray 5)) (w.alloc (.cells (u8s (zeros 4194309)).toArray 5)).heap.size (some ⟨w.heap.size, 0, none⟩) 4194309 (zeros 4194309) := by
  have h := Bytes.ofWhole (Whole.fresh w 5 (u8s (zeros 4194309)))
  rwa [zeros_length] at h
theorem bytes78 (w : World) : Bytes (w.alloc (.cells #[.int .u8 7, .int .u8 8] 5)) (w.alloc (.cells #[.int .u8 7, .int .u8 8] 5)).heap.size (some ⟨w.heap.size, 0, none⟩) 2 [7, 8] :=
  Bytes.ofWhole (zs := [7, 8]) (Whole.fresh w 5 [.int .u8 7, .int .u8 8])
theorem take_zeros : (zeros 4194309).take 4194304 = zeros 4194304 := by
  rw [zeros, zeros, List.take_replicate, Nat.min_eq_left (by omega)]
theorem fit78 : RomFit (romOf [7, 8]) 1 := romOf_fit [7, 8] (by simp)
theorem fit_most : RomFit (romOf ((zeros 4194309).take 4194304)) 256 := by
  rw [take_zeros]
  have h := romOf_fit (zeros 4194304) (by rw [zeros_length]; omega)
  rw [zeros_length] at h
  exact h
theorem at78 (i : Nat) (x : Int) (h : ([7, 8] ++ List.replicate 16382 (0 : Int)).getD i 0 = x) : (romOf [7, 8]).getD i 0 = x := h
theorem at78_1 : (romOf [7, 8]).getD ((0 : Int) % 1 * 16384 + 1 % 16384).toNat 0 = 8 := rfl
theorem at78_0 : (romOf [7, 8]).getD ((-1 : Int) % 1 * 16384 + 16384 % 16384).toNat 0 = 7 := rfl
theorem at78_z : (romOf [7, 8]).getD ((5 : Int) % 1 * 16384 + -1 % 16384).toNat 0 = 0 := by
  have e : ((5 : Int) % 1 * 16384 + -1 % 16384).toNat = 16383 := rfl
  have hr : romOf [7, 8] = [7, 8] ++ zeros 16382 := rfl
  rw [e, hr, List.getD_eq_getElem?_getD, List.getElem?_append_right (by simp), zeros, List.getElem?_replicate]
  simp

theorem new_great_open (a : Option Addr) (n cap : Nat) (zs : List Int) (w : World) (hb : Bytes w w.heap.size a n zs) (hn : 4194304 < n) (hm : n ≤ 9223372036854775807) (hc : n ≤ cap) :
    Calls Try.prog 8 #[.slice a n cap] w fun e w' => ∃ g, e = .returned (.pointer (some ⟨g, 0, none⟩)) ∧ w.heap.size ≤ g ∧ Below w.heap.size w w' ∧ RomAt w' g (romOf (zs.take 4194304)) :=
  (new_great a n cap zs w hb hn hm hc).mono fun _ _ ⟨he, h1, h2⟩ => ⟨_, he, by omega, h1, _, h2⟩
theorem at_is (b : Nat) (zs : List Int) (M : Int) (hM : RomFit zs M) (w : World) (h : RomAt w b zs) (x y v : Int) (hv : zs.getD (x % M * 16384 + y % 16384).toNat 0 = v) :
    Calls Try.prog 9 #[.pointer (some ⟨b, 0, none⟩), .int .i64 x, .int .i64 y] w fun e w' => e = .returned (.int .u8 v) ∧ w = w' := by
  rw [← hv]
  exact at_any b zs M hM w h x y

set_option maxRecDepth 100000 in
set_option maxHeartbeats 1600000 in
theorem names_any (w : World) : Calls Try.prog 3 #[] w fun e w' => e = .returned (.bool true) ∧ Below w.heap.size w w' := by
  have hmk := make4194309
  go_enter Try.func3, Try.ntmps3
  go_wp2_with (first
    | (go_at_call 7; refine (alive_any _).mono ?_; rintro e w1 ⟨rfl, hb1⟩)
    | (go_at_call_of 8 (Value.slice (some ⟨w1.heap.size, 0, none⟩) 2 2); refine (new_open _ 2 2 [7, 8] _ (bytes78 w1) (by omega) (by omega)).mono ?_; rintro e w2 ⟨g2, rfl, hg2, hb2, hr2⟩)
    | (go_at_call 8; refine (new_great_open _ 4194309 4194309 (zeros 4194309) _ (bytes4194309 w2) (by omega) (by omega) (by omega)).mono ?_; rintro e w3 ⟨g3, rfl, hg3, hb3, hr3⟩)
    | (go_at_call_of 9 (Value.int IntKind.i64 0); refine (at_is g2 _ 1 fit78 _ (hr2.next (below_next ((Below.refl _ _).alloc (Nat.le_refl _) _) hb3)) 0 1 8 at78_1).mono ?_; rintro e w' ⟨rfl, rfl⟩)
    | (go_at_call_of 9 (Value.int IntKind.i64 16384); refine (at_is g2 _ 1 fit78 _ (hr2.next (below_next ((Below.refl _ _).alloc (Nat.le_refl _) _) hb3)) (-1) 16384 7 at78_0).mono ?_; rintro e w' ⟨rfl, rfl⟩)
    | (go_at_call 9; refine (at_is g2 _ 1 fit78 _ (hr2.next (below_next ((Below.refl _ _).alloc (Nat.le_refl _) _) hb3)) 5 (-1) 0 at78_z).mono ?_; rintro e w' ⟨rfl, rfl⟩)
    | (go_at_call 10; refine (banks_any g3 _ 256 fit_most _ hr3).mono ?_; rintro e w' ⟨rfl, rfl⟩))
  go_ret
  exact ⟨rfl, below_next (below_next (below_next (below_next hb1 ((Below.refl _ _).alloc (Nat.le_refl _) _)) hb2) ((Below.refl _ _).alloc (Nat.le_refl _) _)) hb3⟩

end Go.Proofs.Ytdgejcbnjelgkaa
