/-
  Package rom's Sum: the sum is made at the first asking and kept; each asking answers it.
-/
import Derived.Test.YtdgejcbnjelgkaaRomOnce
namespace Go.Proofs.Ytdgejcbnjelgkaa
open Go.RowKit

theorem sumOf_same (a : Option Addr) (n cap : Nat) (zs : List Int) (w : World) (B : Nat) (hb : Bytes w B a n zs) (hn : n ≤ 4194304) :
    Calls Try.prog 21 #[.slice a n cap] w fun e w' => e = .returned (.int .u32 (fnv zs)) ∧ w' = w :=
  (sumOf_any a n cap zs w B hb hn).mono fun _ _ h => ⟨h.1, h.2.symm⟩

/-- what Do is handed in Sum: the sum over the bytes goes into the cartridge's last cell -/
theorem made_any (pl b d : Nat) (zs : List Int) (w : World) (hl : zs.length ≤ 4194304) (hp : w.cell? ⟨pl, 0, none⟩ = some (.pointer (some ⟨b, 0, none⟩)))
    (h0 : w.cell? ⟨b, 0, none⟩ = some (.slice (some ⟨d, 0, none⟩) zs.length zs.length)) (hd : Whole w d 5 (u8s zs)) (x : Value) (h4 : w.cell? ⟨b, 4, none⟩ = some x) (f4 : w.frozen? ⟨b, 4, none⟩ = false) :
    Calls Try.prog 20 #[.pointer (some ⟨pl, 0, none⟩)] w fun e w' => e = .returned (.tuple #[]) ∧ w' = w.drew.setCell ⟨b, 4, none⟩ (.int .u32 (fnv zs)) := by
  have HB := Lib.hid (Bytes.ofWhole hd)
  clear hd
  go_enter Try.func20, Try.ntmps20
  go_wp2_with fail
  go_still_tail 8, (by kernel_rfl)
  still_call (sumOf_same _ _ _ zs _ _ HB.out hl)
  repeat still_step
  refine wpStill_nil ?_
  change wpList _ _ _ _ _ w.drew
  have h4' : w.drew.cell? ⟨b, 4, none⟩ = some x := h4
  have f4' : w.drew.frozen? ⟨b, 4, none⟩ = false := f4
  generalize hw : w.drew = w2 at h4' f4' ⊢
  have HW := Lib.hid hw
  clear hw
  go_wp2
  go_end0
  exact ⟨rfl, by rw [← HW.out]⟩

/-- the cells of the cartridge's block -/
def romCells (d L : Nat) (k : Int) (lk : Int) (sem s : Int) : List Value := [.slice (some ⟨d, 0, none⟩) L L, .int .u32 k, .int .i32 lk, .int .u32 sem, .int .u32 s]

set_option maxRecDepth 100000 in
set_option maxHeartbeats 1600000 in
theorem slow_any (pl b d : Nat) (hpb : b ≠ pl) (hdb : b ≠ d) (sem s : Int) (zs : List Int) (w : World) (hl : zs.length ≤ 4194304) (hp : w.cell? ⟨pl, 0, none⟩ = some (.pointer (some ⟨b, 0, none⟩)))
    (hb : Whole w b 56 (romCells d zs.length 0 0 sem s)) (hd : Whole w d 5 (u8s zs)) :
    Calls Try.prog 24 #[.pointer (some ⟨b, 1, none⟩), .func (.func 20) #[] #[.pointer (some ⟨pl, 0, none⟩)]] w fun e w' => e = .returned (.tuple #[]) ∧
      w' = ((((w.setCell ⟨b, 2, none⟩ (.int .i32 1)).drew.setCell ⟨b, 4, none⟩ (.int .u32 (fnv zs))).drew.setCell ⟨b, 1, none⟩ (.int .u32 1)).setCell ⟨b, 2, none⟩ (.int .i32 0)) := by
  have b1 : Whole (w.setCell ⟨b, 2, none⟩ (.int .i32 1)) b 56 (romCells d zs.length 0 1 sem s) := hb.put 2 _
  have d1 : Whole (w.setCell ⟨b, 2, none⟩ (.int .i32 1)) d 5 (u8s zs) := hd.other (fun e => hdb e.symm) _
  have p1 : (w.setCell ⟨b, 2, none⟩ (.int .i32 1)).cell? ⟨pl, 0, none⟩ = some (.pointer (some ⟨b, 0, none⟩)) := (World.cell?_setCell_other _ ⟨b, 2, none⟩ ⟨pl, 0, none⟩ _ (fun h => hpb (congrArg Addr.block h))).trans hp
  have b2 : Whole ((w.setCell ⟨b, 2, none⟩ (.int .i32 1)).drew.setCell ⟨b, 4, none⟩ (.int .u32 (fnv zs))) b 56 (romCells d zs.length 0 1 sem (fnv zs)) := b1.drawn.put 4 _
  have b3 : Whole (((w.setCell ⟨b, 2, none⟩ (.int .i32 1)).drew.setCell ⟨b, 4, none⟩ (.int .u32 (fnv zs))).drew.setCell ⟨b, 1, none⟩ (.int .u32 1)) b 56 (romCells d zs.length 1 1 sem (fnv zs)) := b2.drawn.put 1 _
  have HD := Lib.hid d1
  have HP := Lib.hid p1
  have B0 := Lib.hid hb
  have B1 := Lib.hid b1
  have B2 := Lib.hid b2
  have B3 := Lib.hid b3
  clear b1 d1 p1 b2 b3 hb hd hp
  have c2 : w.cell? ⟨b, 2, none⟩ = some (.int .i32 0) := B0.out.at_ 2
  have c1 : (w.setCell ⟨b, 2, none⟩ (.int .i32 1)).cell? ⟨b, 1, none⟩ = some (.int .u32 0) := B1.out.at_ 1
  go_enter_defers Try.func24, Try.ntmps24
  go_wp2_with (first
    | (go_at_call 26; refine (lock_free ⟨b, 2, none⟩ _ c2 (B0.out.free 2)).mono ?_; rintro e w' ⟨rfl, rfl⟩)
    | (go_at_call 23; refine (load_any ⟨b, 1, none⟩ _ 0 false rfl c1).mono ?_; rintro e w' ⟨rfl, rfl⟩)
    | (go_at_call 20; refine (made_any pl b d zs _ hl HP.out (B1.out.at_ 0) HD.out _ (B1.out.at_ 4) (B1.out.free 4)).mono ?_; rintro e w' ⟨rfl, rfl⟩))
  -- the door: two deferred calls, the last laid first
  refine leaves_cons (f := 28) (args := #[.pointer (some ⟨b, 1, none⟩), .bool true]) (by simp) (by simp [go_sem]) ?_
  refine (store_deferred ⟨b, 1, none⟩ (.int .u32 0) .returning _ (B2.out.at_ 1) (B2.out.free 1)).mono ?_
  rintro e u' w'' ⟨rfl, rfl, rfl⟩
  refine leaves_cons (f := 27) (args := #[.pointer (some ⟨b, 2, none⟩)]) (by simp [settle]) (by simp [go_sem]) ?_
  refine (unlock_deferred ⟨b, 2, none⟩ _ _ (B3.out.at_ 2) (B3.out.free 2)).mono ?_
  rintro e u' w'' ⟨rfl, rfl, rfl⟩
  simp [Leaves, settle, results, Try.results24]

end Go.Proofs.Ytdgejcbnjelgkaa
