/-
  Package rom's New, Banks, At, Bytes: contracts over any bytes that lie in memory.
-/
import Derived.Test.YtlnoomganphbeaaRomSmall
import Derived.Test.YtlnoomganphbeaaRomFnv
import Derived.Laws.CopyOwn
namespace Go.Proofs.Ytlnoomganphbeaa
open Go.RowKit

theorem u8_info : (Try.prog.info? 5).map (fun i => (i.zero, i.size, i.bytes)) = some (some (.int .u8 0), 1, 1) := by kernel_rfl

/-- what a cartridge holds of these bytes -/
def romOf (bs : List Int) : List Int := bs ++ List.replicate ((bk bs.length).toNat * 16384 - bs.length) 0

/-- the cartridge at block b holds these bytes; its sum is not yet made, or is theirs -/
def RomIn (w : World) (b d : Nat) (zs : List Int) : Prop :=
  ∃ k sem s, Whole w b 76 [.slice (some ⟨d, 0, none⟩) zs.length zs.length, .int .u32 k, .int .i32 0, .int .u32 sem, .int .u32 s] ∧ Whole w d 5 (u8s zs) ∧
    (k = 0 ∨ (¬ k = 0 ∧ s = fnv zs))
def RomAt (w : World) (b : Nat) (zs : List Int) : Prop := ∃ d, RomIn w b d zs

theorem bk_room (n : Nat) (h : n ≤ 4194304) : (n : Int) ≤ bk n * 16384 ∧ 1 ≤ bk n ∧ bk n ≤ 256 := by
  unfold bk; repeat' split
  all_goals omega

theorem new_make (n : Nat) (h : n ≤ 4194304) (w : World) :
    (Instr.makeSlice 29 (.int .i64 (bk n * 16384)) (.int .i64 (bk n * 16384))).run Try.prog w = .ok (.slice (some ⟨w.heap.size, 0, none⟩) ((bk n).toNat * 16384) ((bk n).toNat * 16384)) (w.alloc (.cells (u8s (List.replicate ((bk n).toNat * 16384) 0)).toArray 5)) := by
  obtain ⟨i0, hi, hz0, hz1, hz2⟩ := info_parts u8_info
  have hb := bk_room n h
  have hr := run_make (P := Try.prog) w 29 5 i0 (.int .u8 0) Try.underlying29 hi hz0 .i64 .i64 (bk n * 16384) (bk n * 16384) (by omega) (by omega) (by rw [hz2]; omega) (by omega)
  rw [hr]
  have e : (bk n * 16384).toNat = (bk n).toNat * 16384 := by omega
  rw [e, hz1, Nat.mul_one]
  congr 3
  apply Array.ext'
  rw [show (Value.int IntKind.u8 0).cells = #[Value.int IntKind.u8 0] from rfl, toList_madeCells_one]
  simp [u8s]

theorem u8_size : (Try.prog.info? 5).map (·.size) = some 1 := by kernel_rfl

theorem romOf_splice (zs : List Int) : splice (u8s (List.replicate ((bk zs.length).toNat * 16384) 0)) 0 (u8s zs) = u8s (romOf zs) := by
  simp [splice, romOf, u8s]
theorem romOf_length (zs : List Int) (h : zs.length ≤ 4194304) : (romOf zs).length = (bk zs.length).toNat * 16384 := by
  have := bk_room zs.length h
  simp [romOf]; omega

/-- the memory just made: the bytes' block, and the cartridge's -/
def newWorld (w : World) (m : Nat) : World :=
  (w.alloc (.cells (u8s (List.replicate m 0)).toArray 5)).alloc (.cells #[.slice (some ⟨w.heap.size, 0, none⟩) m m, .int .u32 0, .int .i32 0, .int .u32 0, .int .u32 0] 76)
theorem new_below (w : World) (m : Nat) : Below w.heap.size w (newWorld w m) := ((Below.refl _ _).alloc (Nat.le_refl _) _).alloc (by simp) _
theorem new_bytes (w : World) (m : Nat) : Whole (newWorld w m) w.heap.size 5 (u8s (List.replicate m 0)) := (Whole.fresh w _ _).beside _
theorem new_rom (w : World) (m : Nat) : Whole (newWorld w m) (w.heap.size + 1) 76 [.slice (some ⟨w.heap.size, 0, none⟩) m m, .int .u32 0, .int .i32 0, .int .u32 0, .int .u32 0] := by
  have h := Whole.fresh (w.alloc (.cells (u8s (List.replicate m 0)).toArray 5)) 76 [.slice (some ⟨w.heap.size, 0, none⟩) m m, .int .u32 0, .int .i32 0, .int .u32 0, .int .u32 0]
  simpa [newWorld] using h
theorem new_hold (w w2 : World) (zs : List Int) (hz : zs.length ≤ 4194304) (m : Nat) (hm : m = (bk zs.length).toNat * 16384) (HG : Whole w2 w.heap.size 5 (splice (u8s (List.replicate m 0)) 0 (u8s zs)))
    (hgr : (newWorld w m).grownBy w2 (some w.heap.size)) : Below w.heap.size w w2 ∧ RomIn w2 (w.heap.size + 1) w.heap.size (romOf zs) := by
  subst hm
  refine ⟨(new_below w _).grown hgr (new_below w ((bk zs.length).toNat * 16384)).size (by intro k hk; cases hk; exact Nat.le_refl _), 0, 0, 0, ?_, ?_, .inl rfl⟩
  · rw [romOf_length zs hz]
    exact (new_rom w _).grown hgr (by simp)
  · rw [← romOf_splice]; exact HG
theorem new_cells {a : Option Addr} {n : Nat} {zs : List Int} {w : World} (hb : Bytes w w.heap.size a n zs) (m : Nat) (h : 0 < zs.length) :
    ∃ ad, a = some ad ∧ ∀ j v, (u8s zs)[j]? = some v → (newWorld w m).cell? (ad.add j) = some v :=
  (hb.under (new_below w m)).cells (by rw [← hb.1]; exact h)

set_option maxHeartbeats 800000 in
theorem new_small (a : Option Addr) (n cap : Nat) (zs : List Int) (w : World) (hb : Bytes w w.heap.size a n zs) (hn : n ≤ 4194304) (hc : n ≤ cap) :
    Calls Try.prog 10 #[.slice a n cap] w fun e w' => e = .returned (.pointer (some ⟨w.heap.size + 1, 0, none⟩)) ∧ Below w.heap.size w w' ∧ RomIn w' (w.heap.size + 1) w.heap.size (romOf zs) := by
  have hbk := bk_room n hn
  have hmk := new_make n hn
  have HB := Lib.hid hb
  clear hb
  go_enter Try.func10, Try.ntmps10
  go_wp2_with (first
    | (go_at_call 26; refine (banksFor_any _ _ (by omega) (by omega)).mono ?_; rintro e w' ⟨rfl, rfl⟩)
    | ((with_reducible refine copy_into rfl (.tmp 19) (.tmp 20) 29 29 rfl 5 Try.underlying29 u8_size (some ⟨w.heap.size, 0, none⟩) a ((bk n).toNat * 16384) ((bk n).toNat * 16384) n cap rfl rfl w.heap.size 0 (u8s (List.replicate ((bk n).toNat * 16384) 0)) 5 ?_ (u8s zs) ?_ ?_ ?_ (u8s_one zs) ?_); rotate_right; intro w2 HG hgr))
  · go_ret
    exact ⟨rfl, new_hold w w2 zs (by rw [HB.out.1]; exact hn) _ (by rw [HB.out.1]) HG.out hgr⟩
  · exact new_bytes w _
  · rw [u8s_length, HB.out.1]; exact (Nat.min_eq_left (by omega)).symm
  · intro h
    exact new_cells HB.out _ h
  · rw [u8s_length, u8s_length, List.length_replicate, HB.out.1]; omega

theorem new_make_most (w : World) :
    (Instr.makeSlice 29 (.int .i64 (bk 4194304 * 16384)) (.int .i64 (bk 4194304 * 16384))).run Try.prog w = .ok (.slice (some ⟨w.heap.size, 0, none⟩) ((bk 4194304).toNat * 16384) ((bk 4194304).toNat * 16384)) (w.alloc (.cells (u8s (List.replicate ((bk 4194304).toNat * 16384) 0)).toArray 5)) :=
  new_make 4194304 (Nat.le_refl _) w
theorem bk_most : (4194304 : Int) ≤ bk 4194304 * 16384 ∧ 1 ≤ bk 4194304 ∧ bk 4194304 ≤ 256 := bk_room 4194304 (Nat.le_refl _)

set_option maxHeartbeats 800000 in
theorem new_great (a : Option Addr) (n cap : Nat) (zs : List Int) (w : World) (hb : Bytes w w.heap.size a n zs) (hn : 4194304 < n) (hm : n ≤ 9223372036854775807) (hc : n ≤ cap) :
    Calls Try.prog 10 #[.slice a n cap] w fun e w' => e = .returned (.pointer (some ⟨w.heap.size + 1, 0, none⟩)) ∧ Below w.heap.size w w' ∧ RomIn w' (w.heap.size + 1) w.heap.size (romOf (zs.take 4194304)) := by
  have hbk := bk_most
  have hmk := new_make_most
  have HB := Lib.hid (hb.take 4194304 (by omega))
  clear hb
  go_enter Try.func10, Try.ntmps10
  go_wp2_with (first
    | (go_at_call 26; refine (banksFor_any _ _ (by omega) (by omega)).mono ?_; rintro e w' ⟨rfl, rfl⟩)
    | ((with_reducible refine copy_into rfl (.tmp 19) (.tmp 20) 29 29 rfl 5 Try.underlying29 u8_size (some ⟨w.heap.size, 0, none⟩) a ((bk 4194304).toNat * 16384) ((bk 4194304).toNat * 16384) 4194304 cap rfl rfl w.heap.size 0 (u8s (List.replicate ((bk 4194304).toNat * 16384) 0)) 5 ?_ (u8s (zs.take 4194304)) ?_ ?_ ?_ (u8s_one _) ?_); rotate_right; intro w2 HG hgr))
  · go_ret
    refine ⟨rfl, new_hold w w2 _ (by rw [HB.out.1]; exact Nat.le_refl _) _ ?_ HG.out hgr⟩
    rw [HB.out.1]; rfl
  · exact new_bytes w _
  · rw [u8s_length, HB.out.1]; exact (Nat.min_eq_left (by omega)).symm
  · intro _
    exact new_cells HB.out _ (by rw [HB.out.1]; omega)
  · rw [u8s_length, u8s_length, List.length_replicate, HB.out.1]; omega

end Go.Proofs.Ytlnoomganphbeaa
