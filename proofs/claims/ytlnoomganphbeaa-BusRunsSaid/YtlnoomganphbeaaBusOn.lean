/-
  A bus and its cartridge, made behind a world: one word for what is known of both, and the calls in that word; the laws' own helper busAlive answers true.
-/
import Derived.Test.YtlnoomganphbeaaBusLoad
import Derived.Laws.StructEq
namespace Go.Proofs.Ytlnoomganphbeaa
open Go.RowKit

/-- in w, behind W0: the bus at b holds zs over the cartridge at g, which holds rs; what was in W0 is as it was -/
def On (W0 w : World) (b g : Nat) (zs rs : List Int) : Prop := BusAt w b g zs ∧ RomAt w g rs ∧ Below W0.heap.size W0 w ∧ W0.heap.size ≤ b

theorem RomAt.next {w w' : World} {g : Nat} {zs : List Int} (h : RomAt w g zs) (hb : Below w.heap.size w w') : RomAt w' g zs := by
  obtain ⟨d, k, sem, s, h1, h2, h3⟩ := h
  exact ⟨d, k, sem, s, h1.under hb h1.inside, h2.under hb h2.inside, h3⟩
theorem RomAt.inside {w : World} {g : Nat} {zs : List Int} (h : RomAt w g zs) : g < w.heap.size := by
  obtain ⟨d, k, sem, s, h1, h2, h3⟩ := h
  exact h1.inside
theorem RomAt.byBus {w w' : World} {b g g' : Nat} {zs rs : List Int} (h : RomAt w g rs) (hb : BusAt w b g' zs) (hg : w.grownBy w' (some b)) : RomAt w' g rs := by
  obtain ⟨d, k, sem, s, h1, h2, h3⟩ := h
  have n1 : g ≠ b := h1.apart hb.1 (by decide)
  have n2 : d ≠ b := h2.apart hb.1 (by decide)
  exact ⟨d, k, sem, s, h1.grown hg (by simpa using n1), h2.grown hg (by simpa using n2), h3⟩
theorem below_next {w w1 w2 : World} (h : Below w.heap.size w w1) (hb : Below w1.heap.size w1 w2) : Below w.heap.size w w2 := h.trans (hb.mono h.size)
theorem On.next {W0 w w' : World} {b g : Nat} {zs rs : List Int} (h : On W0 w b g zs rs) (hb : Below w.heap.size w w') : On W0 w' b g zs rs :=
  ⟨h.1.next hb, h.2.1.next hb, below_next h.2.2.1 hb, h.2.2.2⟩
theorem below_drewN (w : World) (n : Nat) : Below w.heap.size w (w.drewN n) := ⟨rfl, rfl, rfl, Nat.le_refl _, fun _ _ => rfl⟩
theorem On.turned {W0 w w' : World} {b g : Nat} {zs zs' rs : List Int} (h : On W0 w b g zs rs) (hb : BusAt w' b g zs') (hg : w.grownBy w' (some b)) : On W0 w' b g zs' rs :=
  ⟨hb, h.2.1.byBus h.1 hg, h.2.2.1.grown hg h.2.2.1.size (by intro k hk; cases hk; exact h.2.2.2), h.2.2.2⟩

theorem new_open (a : Option Addr) (n cap : Nat) (zs : List Int) (w : World) (hb : Bytes w w.heap.size a n zs) (hn : n ≤ 4194304) (hc : n ≤ cap) :
    Calls Try.prog 10 #[.slice a n cap] w fun e w' => ∃ g, e = .returned (.pointer (some ⟨g, 0, none⟩)) ∧ w.heap.size ≤ g ∧ Below w.heap.size w w' ∧ RomAt w' g (romOf zs) :=
  (new_small a n cap zs w hb hn hc).mono fun _ _ ⟨he, h1, h2⟩ => ⟨_, he, by omega, h1, _, h2⟩

/-- image, then New of package rom: known by what is made -/
def Img (W0 w : World) (a : Option Addr) (L : Nat) (n : Nat) : Prop := L = n * 16384 ∧ Bytes w w.heap.size a L (img n) ∧ Below W0.heap.size W0 w
theorem image_open (W0 : World) (n : Nat) (hn : n ≤ 12) (w : World) (hw : Below W0.heap.size W0 w) :
    Calls Try.prog 14 #[.int .i64 n] w fun e w' => ∃ a L, e = .returned (.slice a L L) ∧ Hid (Img W0 w' a L n) ∧ Hid (Below w.heap.size w w') :=
  (image_any n hn _ rfl w).mono fun _ _ ⟨he, h1, h2⟩ => ⟨_, _, he, ⟨rfl, by have := Bytes.ofWhole h2; rwa [img_length] at this, below_next hw h1⟩, h1⟩
/-- a cartridge made behind W0 -/
def Cart (W0 w : World) (g : Nat) (rs : List Int) : Prop := RomAt w g rs ∧ Below W0.heap.size W0 w ∧ W0.heap.size ≤ g
def imgRom (n : Nat) : List Int := romOf (img n)
theorem rom_img (W0 : World) (a : Option Addr) (L n : Nat) (hn : n ≤ 12) (w : World) (hi : Hid (Img W0 w a L n)) :
    Calls Try.prog 10 #[.slice a L L] w fun e w' => ∃ g, e = .returned (.pointer (some ⟨g, 0, none⟩)) ∧ Hid (Cart W0 w' g (imgRom n)) ∧ Hid (Below w.heap.size w w') := by
  obtain ⟨rfl, h1, h2⟩ := hi
  exact (new_open a _ _ (img n) w h1 (by omega) (Nat.le_refl _)).mono fun _ _ ⟨g, he, hg, hb, hr⟩ => ⟨g, he, ⟨hr, below_next h2 hb, Nat.le_trans h2.size hg⟩, hb⟩
theorem bus_cart (W0 : World) (g : Nat) (rs : List Int) (w : World) (hc : Hid (Cart W0 w g rs)) :
    Calls Try.prog 9 #[.pointer (some ⟨g, 0, none⟩)] w fun e w' => ∃ b, e = .returned (.pointer (some ⟨b, 0, none⟩)) ∧ Hid (On W0 w' b g bus0 rs) ∧ Hid (Below w.heap.size w w') := by
  obtain ⟨h1, h2, h3⟩ := hc
  exact (bnew_any g w).mono fun _ _ ⟨b, he, hb, hbel, hB⟩ => ⟨b, he, ⟨hB, h1.next hbel, below_next h2 hbel, Nat.le_trans h2.size hb⟩, hbel⟩

def bkI (n : Nat) : Int := bk ((n * 16384 : Nat) : Int)
theorem fit_img (n : Nat) (hn : n ≤ 12) : RomFit (imgRom n) (bkI n) := by
  have := romOf_fit (img n) (by rw [img_length]; omega)
  rwa [img_length] at this

theorem read_on (W0 : World) (b g : Nat) (zs rs : List Int) (M : Int) (hM : Hid (RomFit rs M)) (a v : Int) (h0 : 0 ≤ a) (h1 : a ≤ 65535) (w : World) (h : Hid (On W0 w b g zs rs)) (hv : Hid (readOf rs M zs a = v)) :
    Calls Try.prog 18 #[.pointer (some ⟨b, 0, none⟩), .int .u16 a] w fun e w' => e = .returned (.int .u8 v) ∧ Hid (On W0 w' b g zs rs) ∧ Hid (∃ n, w' = w.drewN n) := by
  have hv' := hv.out
  subst hv'
  exact (read_any b g zs rs M hM.out a h0 h1 w h.out.1 h.out.2.1).mono fun _ _ ⟨he, n, hn⟩ => ⟨he, by subst hn; exact h.out.next (below_drewN w n), n, hn⟩
theorem write_on (W0 : World) (b g : Nat) (zs rs : List Int) (a v : Int) (h0 : 0 ≤ a) (h1 : a ≤ 65535) (v0 : 0 ≤ v) (v1 : v ≤ 255) (w : World) (h : Hid (On W0 w b g zs rs)) :
    Calls Try.prog 20 #[.pointer (some ⟨b, 0, none⟩), .int .u16 a, .int .u8 v] w fun e w' => e = .returned (.tuple #[]) ∧ Hid (On W0 w' b g (writeOf zs a v) rs) ∧ Hid (w.grownBy w' (some b)) :=
  (write_any b g zs a v h0 h1 v0 v1 w h.out.1).mono fun _ _ ⟨he, hb, hg⟩ => ⟨he, h.out.turned hb hg, hg⟩
theorem mapper_on (W0 : World) (b g : Nat) (zs rs : List Int) (x : Value) (w : World) (h : Hid (On W0 w b g zs rs)) (hx : Hid (mapV zs = x)) :
    Calls Try.prog 23 #[.pointer (some ⟨b, 0, none⟩)] w fun e w' => e = .returned x ∧ Hid (On W0 w' b g zs rs) ∧ Hid (Below w.heap.size w w') := by
  have hx' := hx.out
  subst hx'
  exact (mapper_any b g zs w h.out.1).mono fun _ _ ⟨he, hb⟩ => ⟨he, h.out.next hb, hb⟩

/-- what stands at a place behind one that was set -/
theorem getD_set (zs : List Int) (i j : Nat) (v : Int) (hi : i < zs.length) : (zs.set i v).getD j 0 = if i = j then v else zs.getD j 0 := by
  rw [List.getD_eq_getElem?_getD, List.getD_eq_getElem?_getD, List.getElem?_set]
  split
  · next h => subst h; simp
  · rfl
theorem bus0_getD (j : Nat) : bus0.getD j 0 = if j = 40962 then 1 else if j = 40963 then 2 else 0 := by
  unfold bus0
  rw [List.getD_eq_getElem?_getD]
  rcases Nat.lt_or_ge j 40960 with h | h
  · rw [List.getElem?_append_left (by rw [zeros_length]; exact h), zeros, List.getElem?_replicate, if_pos h, if_neg (by omega), if_neg (by omega)]; rfl
  · rw [List.getElem?_append_right (by rw [zeros_length]; exact h), zeros_length]
    obtain ⟨k, rfl⟩ : ∃ k, j = 40960 + k := ⟨j - 40960, by omega⟩
    rw [Nat.add_sub_cancel_left]
    match k with
    | 0 => rfl
    | 1 => rfl
    | 2 => rfl
    | 3 => rfl
    | k + 4 => rw [if_neg (by omega), if_neg (by omega), List.getElem?_eq_none (by simp)]; rfl
def aliveZ : List Int := writeOf (writeOf bus0 65534 5) 49153 9
theorem aliveZ_eq : aliveZ = ((bus0.set 8190 5).set 40962 5).set 1 9 := by
  have h1 : writeOf bus0 65534 5 = (bus0.set 8190 5).set 40962 5 := by
    unfold writeOf placeSet placeOf; rfl
  unfold aliveZ; rw [h1]
  unfold writeOf placeSet placeOf; rfl
theorem aliveZ_getD (j : Nat) : aliveZ.getD j 0 = if 1 = j then 9 else if 40962 = j then 5 else if 8190 = j then 5 else if j = 40963 then 2 else 0 := by
  rw [aliveZ_eq, getD_set _ _ _ _ (by simp [bus0_length]), getD_set _ _ _ _ (by simp [bus0_length]), getD_set _ _ _ _ (by simp [bus0_length]), bus0_getD]
  repeat' split
  all_goals first | rfl | omega
theorem romOf_img (n i : Nat) (hi : i < n * 16384) : (imgRom n).getD i 0 = imgB i := by
  unfold imgRom romOf
  rw [List.getD_eq_getElem?_getD, List.getElem?_append_left (by rw [img_length]; exact hi)]
  unfold img imgTo
  simp [hi]
theorem alive_map : mapV aliveZ = .agg #[.int .u8 0, .int .u8 0, .int .u8 5, .int .u8 2] := by
  unfold mapV
  rw [aliveZ_getD, aliveZ_getD, aliveZ_getD, aliveZ_getD]; rfl
theorem alive_read1 : readOf (imgRom 8) (bkI 8) aliveZ 16384 = 85 := by
  have hp : placeOf aliveZ 16384 = none := by unfold placeOf; rfl
  have hk : bankOf aliveZ 16384 = 5 := by unfold bankOf; rw [if_neg (by omega), aliveZ_getD]; rfl
  have hb : bkI 8 = 8 := rfl
  unfold readOf
  rw [hp, hk, hb]
  show (imgRom 8).getD 81920 0 = 85
  rw [romOf_img 8 81920 (by omega)]; rfl
theorem alive_read2 : readOf (imgRom 8) (bkI 8) aliveZ 57345 = 9 := by
  have hp : placeOf aliveZ 57345 = some 1 := by unfold placeOf; rfl
  unfold readOf
  rw [hp]
  show aliveZ.getD 1 0 = 9
  rw [aliveZ_getD]; rfl

/-- two rows of four bytes, held against each other -/
theorem eq4_run (d : Nat) (x0 x1 x2 x3 y0 y1 y2 y3 : Int) (w : World) :
    (Op.equalIn (d + 2) 46 (.agg #[.int .u8 x0, .int .u8 x1, .int .u8 x2, .int .u8 x3]) (.agg #[.int .u8 y0, .int .u8 y1, .int .u8 y2, .int .u8 y3])).run Try.prog w = .ok (x0 == y0 && (x1 == y1 && (x2 == y2 && x3 == y3))) w := by
  unfold Op.equalIn
  simp only [Sem.run_bind, Try.runUnderlying46, Result.andThen_ok]
  have hr : List.range' 0 4 = [0, 1, 2, 3] := rfl
  have e (a b : Int) (w : World) : (Op.equalIn (d + 1) 5 (.int .u8 a) (.int .u8 b)).run Try.prog w = .ok (a == b) w := run_equalIn_int w d 5 .u8 .u8 a b Try.underlying5
  by_cases h0 : x0 = y0 <;> by_cases h1 : x1 = y1 <;> by_cases h2 : x2 = y2 <;> by_cases h3 : x3 = y3 <;> simp [go_sem, hr, e, h0, h1, h2, h3]
theorem same4_run (x0 x1 x2 x3 : Int) (w : World) :
    (Op.equalIn 10000 46 (.agg #[.int .u8 x0, .int .u8 x1, .int .u8 x2, .int .u8 x3]) (.agg #[.int .u8 x0, .int .u8 x1, .int .u8 x2, .int .u8 x3])).run Try.prog w = .ok true w := by
  have := eq4_run 9998 x0 x1 x2 x3 x0 x1 x2 x3 w
  simpa using this

set_option maxRecDepth 100000 in
set_option maxHeartbeats 1600000 in
theorem alive_any (w : World) : Calls Try.prog 11 #[] w fun e w' => e = .returned (.bool true) ∧ Hid (Below w.heap.size w w') := by
  have F8 : Hid (RomFit (imgRom 8) (bkI 8)) := fit_img 8 (by omega)
  have A1 := Lib.hid alive_read1
  have A2 := Lib.hid alive_read2
  have A3 := Lib.hid alive_map
  have E4 := same4_run 0 0 5 2
  go_enter Try.func11, Try.ntmps11
  go_wp2_with (first
    | (go_at_call 14; refine (image_open w 8 (by omega) _ (Below.refl _ _)).mono ?_; rintro e w1 ⟨a1, L1, rfl, H1, -⟩)
    | (go_at_call 10; refine (rom_img w a1 L1 8 (by omega) _ H1).mono ?_; rintro e w2 ⟨g, rfl, H2, -⟩)
    | (go_at_call 9; refine (bus_cart w g _ _ H2).mono ?_; rintro e w3 ⟨b, rfl, H3, -⟩)
    | (go_at_call_of 20 (Value.int IntKind.u16 65534); refine (write_on w b g _ _ _ _ (by omega) (by omega) (by omega) (by omega) _ H3).mono ?_; rintro e w4 ⟨rfl, H4, -⟩)
    | (go_at_call_of 20 (Value.int IntKind.u16 49153); refine (write_on w b g _ _ _ _ (by omega) (by omega) (by omega) (by omega) _ H4).mono ?_; rintro e w5 ⟨rfl, H5, -⟩)
    | (go_at_call_of 18 (Value.int IntKind.u16 16384); refine (read_on w b g aliveZ _ _ F8 _ 85 (by omega) (by omega) _ H5 A1).mono ?_; rintro e w6 ⟨rfl, H6, -⟩)
    | (go_at_call_of 18 (Value.int IntKind.u16 57345); refine (read_on w b g aliveZ _ _ F8 _ 9 (by omega) (by omega) _ H6 A2).mono ?_; rintro e w7 ⟨rfl, H7, -⟩)
    | (go_at_call 23; refine (mapper_on w b g aliveZ _ _ _ H7 A3).mono ?_; rintro e w8 ⟨rfl, H8, -⟩))
  go_ret
  exact ⟨rfl, H8.out.2.2.1⟩

end Go.Proofs.Ytlnoomganphbeaa
