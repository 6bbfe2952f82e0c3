/-
  Package rom's Sum and Bytes, each by one contract over a cartridge that holds any bytes, asked before or not.
-/
import Derived.Test.YtdgejcbnjelgkaaRomMade
namespace Go.Proofs.Ytdgejcbnjelgkaa
open Go.RowKit

set_option maxHeartbeats 800000 in
theorem do_first (pl b d : Nat) (hpb : b ≠ pl) (hdb : b ≠ d) (sem s : Int) (zs : List Int) (w : World) (hl : zs.length ≤ 4194304) (hp : w.cell? ⟨pl, 0, none⟩ = some (.pointer (some ⟨b, 0, none⟩)))
    (hb : Whole w b 56 (romCells d zs.length 0 0 sem s)) (hd : Whole w d 5 (u8s zs)) :
    Calls Try.prog 19 #[.pointer (some ⟨b, 1, none⟩), .func (.func 20) #[] #[.pointer (some ⟨pl, 0, none⟩)]] w fun e w' => e = .returned (.tuple #[]) ∧
      w' = ((((w.setCell ⟨b, 2, none⟩ (.int .i32 1)).drew.setCell ⟨b, 4, none⟩ (.int .u32 (fnv zs))).drew.setCell ⟨b, 1, none⟩ (.int .u32 1)).setCell ⟨b, 2, none⟩ (.int .i32 0)) := by
  have HP := Lib.hid hp
  have B0 := Lib.hid hb
  have HD := Lib.hid hd
  clear hp hb hd
  go_enter Try.func19, Try.ntmps19
  go_wp2_with (first
    | (go_at_call 24; refine (slow_any pl b d hpb hdb sem s zs _ hl HP.out B0.out HD.out).mono ?_; rintro e w' ⟨rfl, rfl⟩)
    | (go_at_call 23; refine (load_any ⟨b, 1, none⟩ _ 0 false rfl (B0.out.at_ 1)).mono ?_; rintro e w' ⟨rfl, rfl⟩))
  go_end0
  exact ⟨rfl, rfl⟩

theorem do_done (pl b d : Nat) (k sem s : Int) (hk : ¬ k = 0) (L : Nat) (w : World)
    (hb : Whole w b 56 (romCells d L k 0 sem s)) :
    Calls Try.prog 19 #[.pointer (some ⟨b, 1, none⟩), .func (.func 20) #[] #[.pointer (some ⟨pl, 0, none⟩)]] w fun e w' => e = .returned (.tuple #[]) ∧ w = w' := by
  have B0 := Lib.hid hb
  clear hb
  go_enter Try.func19, Try.ntmps19
  go_wp2_with (go_at_call 23; refine (load_any ⟨b, 1, none⟩ _ k true (by simp [hk]) (B0.out.at_ 1)).mono ?_; rintro e w' ⟨rfl, rfl⟩)
  go_end0
  exact ⟨rfl, rfl⟩

theorem grown_set {a w : World} {g : Nat} (h : a.grownBy w (some g)) (o : Nat) (u : Value) : a.grownBy (w.setCell ⟨g, o, none⟩ u) (some g) :=
  ⟨h.os, h.tape, h.output, by simpa [World.setCell] using h.size, fun i hi hne => (Below.heap_setCell w ⟨g, o, none⟩ u i (fun e => hne (by rw [e]))).trans (h.block i hi hne)⟩
theorem grown_draw {a w : World} {row : Option Nat} (h : a.grownBy w row) : a.grownBy w.drew row := ⟨h.os, h.tape, h.output, h.size, h.block⟩

/-- Do, asked before or not: behind it the sum stands in the last cell -/
theorem do_any (pl b d : Nat) (hpb : b ≠ pl) (hdb : b ≠ d) (k sem s : Int) (zs : List Int) (hk : k = 0 ∨ (¬ k = 0 ∧ s = fnv zs)) (w : World) (hl : zs.length ≤ 4194304) (hp : Whole w pl 23 [.pointer (some ⟨b, 0, none⟩)])
    (hb : Whole w b 56 (romCells d zs.length k 0 sem s)) (hd : Whole w d 5 (u8s zs)) :
    Calls Try.prog 19 #[.pointer (some ⟨b, 1, none⟩), .func (.func 20) #[] #[.pointer (some ⟨pl, 0, none⟩)]] w fun e w' => e = .returned (.tuple #[]) ∧
      (Hid (RomIn w' b d zs ∧ w.grownBy w' (some b)) ∧ w'.cell? ⟨pl, 0, none⟩ = some (.pointer (some ⟨b, 0, none⟩)) ∧ w'.cell? ⟨b, 4, none⟩ = some (.int .u32 (fnv zs))) := by
  rcases hk with rfl | ⟨hk, rfl⟩
  · refine (do_first pl b d hpb hdb sem s zs w hl (hp.at_ 0) hb hd).mono ?_
    rintro e w' ⟨rfl, rfl⟩
    have b2 := (((((hb.put 2 (.int .i32 1)).drawn.put 4 (.int .u32 (fnv zs))).drawn.put 1 (.int .u32 1)).put 2 (.int .i32 0)))
    have d2 := ((((hd.other (p := ⟨b, 2, none⟩) (Ne.symm hdb) (.int .i32 1)).drawn.other (p := ⟨b, 4, none⟩) (Ne.symm hdb) (.int .u32 (fnv zs))).drawn.other (p := ⟨b, 1, none⟩) (Ne.symm hdb) (.int .u32 1)).other (p := ⟨b, 2, none⟩) (Ne.symm hdb) (.int .i32 0))
    have p2 := ((((hp.other (p := ⟨b, 2, none⟩) (Ne.symm hpb) (.int .i32 1)).drawn.other (p := ⟨b, 4, none⟩) (Ne.symm hpb) (.int .u32 (fnv zs))).drawn.other (p := ⟨b, 1, none⟩) (Ne.symm hpb) (.int .u32 1)).other (p := ⟨b, 2, none⟩) (Ne.symm hpb) (.int .i32 0))
    have g0 : w.grownBy w (some b) := ⟨rfl, rfl, rfl, Nat.le_refl _, fun _ _ _ => rfl⟩
    have g2 := grown_set (grown_set (grown_draw (grown_set (grown_draw (grown_set g0 2 (.int .i32 1))) 4 (.int .u32 (fnv zs)))) 1 (.int .u32 1)) 2 (.int .i32 0)
    exact ⟨rfl, ⟨⟨1, sem, fnv zs, b2, d2, .inr ⟨by decide, rfl⟩⟩, g2⟩, p2.at_ 0, b2.at_ 4⟩
  · refine (do_done pl b d k sem _ hk zs.length w hb).mono ?_
    rintro e w' ⟨rfl, rfl⟩
    exact ⟨rfl, ⟨⟨k, sem, _, hb, hd, .inr ⟨hk, rfl⟩⟩, ⟨rfl, rfl, rfl, Nat.le_refl _, fun _ _ _ => rfl⟩⟩, hp.at_ 0, hb.at_ 4⟩

theorem grown_from {a w w' : World} {o : Obj} {g : Nat} (h : a.grownBy w' (some g)) (ha : a = w.alloc o) : w.grownBy w' (some g) := by
  subst ha
  exact ⟨h.os, h.tape, h.output, Nat.le_trans (by simp) h.size, fun i hi hne => (h.block i (by simp; omega) hne).trans (Below.heap_alloc w o i hi)⟩

set_option maxHeartbeats 800000 in
theorem sum_in (b d : Nat) (zs : List Int) (M : Int) (hM : RomFit zs M) (w : World) (h : RomIn w b d zs) :
    Calls Try.prog 15 #[.pointer (some ⟨b, 0, none⟩)] w fun e w' => e = .returned (.int .u32 (fnv zs)) ∧ (RomIn w' b d zs ∧ w.grownBy w' (some b)) := by
  obtain ⟨k, sem, s, hb, hd, hk⟩ := h
  have hl : zs.length ≤ 4194304 := by have := hM.2; have := hM.bd; omega
  have hpb : b ≠ w.heap.size := by have := hb.inside; omega
  have hdb : b ≠ d := hb.apart hd (by decide)
  have hmf : ∀ (fn : Fn) (first cap : Array Value) (w : World), (Instr.makeFunc fn first cap).run Try.prog w = .ok (.func fn first cap) w := fun _ _ _ _ => rfl
  have P1 : Hid (Whole (w.alloc (.cells #[.pointer (some ⟨b, 0, none⟩)] 23)) w.heap.size 23 [.pointer (some ⟨b, 0, none⟩)]) := Whole.fresh w _ [_]
  have B1 : Hid (Whole (w.alloc (.cells #[.pointer (some ⟨b, 0, none⟩)] 23)) b 56 (romCells d zs.length k 0 sem s)) := hb.beside _
  have D1 : Hid (Whole (w.alloc (.cells #[.pointer (some ⟨b, 0, none⟩)] 23)) d 5 (u8s zs)) := hd.beside _
  have HK := Lib.hid hk
  clear hb hd hM hk
  go_enter Try.func15, Try.ntmps15
  go_wp2_with (go_at_call 19; refine (do_any w.heap.size b d hpb hdb k sem s zs HK.out _ hl P1.out B1.out D1.out).mono ?_; rintro e w' ⟨rfl, HR, h0, h4⟩)
  go_ret
  exact ⟨rfl, HR.out.1, grown_from HR.out.2 rfl⟩

theorem sum_any (b : Nat) (zs : List Int) (M : Int) (hM : RomFit zs M) (w : World) (h : RomAt w b zs) :
    Calls Try.prog 15 #[.pointer (some ⟨b, 0, none⟩)] w fun e w' => e = .returned (.int .u32 (fnv zs)) ∧ (RomAt w' b zs ∧ w.grownBy w' (some b)) := by
  obtain ⟨d, h⟩ := h
  exact (sum_in b d zs M hM w h).mono fun _ _ ⟨he, h1, h2⟩ => ⟨he, ⟨d, h1⟩, h2⟩

theorem bytes_make (n : Nat) (h : n ≤ 4194304) (w : World) :
    (Instr.makeSlice 25 (.int .i64 (n : Int)) (.int .i64 (n : Int))).run Try.prog w = .ok (.slice (some ⟨w.heap.size, 0, none⟩) n n) (w.alloc (.cells (u8s (List.replicate n 0)).toArray 5)) := by
  obtain ⟨i0, hi, hz0, hz1, hz2⟩ := info_parts u8_info
  have hr := run_make (P := Try.prog) w 25 5 i0 (.int .u8 0) Try.underlying25 hi hz0 .i64 .i64 (n : Int) (n : Int) (by omega) (by omega) (by rw [hz2]; omega) (by omega)
  rw [hr]
  rw [Int.toNat_natCast, hz1, Nat.mul_one]
  congr 3
  apply Array.ext'
  rw [show (Value.int IntKind.u8 0).cells = #[Value.int IntKind.u8 0] from rfl, toList_madeCells_one]
  simp [u8s]

set_option maxHeartbeats 800000 in
theorem bytes_any (b : Nat) (zs : List Int) (M : Int) (hM : RomFit zs M) (w : World) (h : RomAt w b zs) :
    Calls Try.prog 14 #[.pointer (some ⟨b, 0, none⟩)] w fun e w' => e = .returned (.slice (some ⟨w.heap.size, 0, none⟩) zs.length zs.length) ∧ (Whole w' w.heap.size 5 (u8s zs) ∧ Below w.heap.size w w') := by
  obtain ⟨d, k, sem, s, hb, hd, hk⟩ := h
  have hl : zs.length ≤ 4194304 := by have := hM.2; have := hM.bd; omega
  have hmk := bytes_make zs.length hl
  have h0 := hb.at_ 0
  simp only [List.getElem?_cons_zero] at h0
  have h1 : (w.alloc (.cells (u8s (List.replicate zs.length 0)).toArray 5)).cell? ⟨b, 0, none⟩ = some (.slice (some ⟨d, 0, none⟩) zs.length zs.length) := (hb.beside _).at_ 0
  have D1 : Hid (Whole (w.alloc (.cells (u8s (List.replicate zs.length 0)).toArray 5)) d 5 (u8s zs)) := hd.beside _
  have N1 : Hid (Whole (w.alloc (.cells (u8s (List.replicate zs.length 0)).toArray 5)) w.heap.size 5 (u8s (List.replicate zs.length 0))) := Whole.fresh w _ _
  clear hb hd hM hk
  go_enter Try.func14, Try.ntmps14
  go_wp2_with ((with_reducible refine copy_into rfl (.tmp 10) (.tmp 14) 25 25 rfl 5 Try.underlying25 u8_size (some ⟨w.heap.size, 0, none⟩) (some ⟨d, 0, none⟩) zs.length zs.length zs.length zs.length rfl rfl w.heap.size 0 (u8s (List.replicate zs.length 0)) 5 N1.out (u8s zs) ?_ ?_ ?_ (u8s_one zs) ?_); rotate_right; intro w2 HG hgr)
  · go_ret
    have e : splice (u8s (List.replicate zs.length 0)) 0 (u8s zs) = u8s zs := by simp [splice, u8s]
    exact ⟨rfl, by rw [← e]; exact HG.out, ((Below.refl _ _).alloc (Nat.le_refl _) _).grown hgr (by simp) (by intro k hk; cases hk; exact Nat.le_refl _)⟩
  · rw [u8s_length]; exact (Nat.min_eq_left (Nat.le_refl _)).symm
  · intro h
    obtain ⟨ad, e, hh⟩ := (Bytes.ofWhole D1.out).cells (by simpa using h)
    cases e
    intro j v hv
    have ha : (⟨d, 0, none⟩ : Addr).add j = ⟨d, j, none⟩ := by unfold Addr.add; split <;> simp_all
    exact (congrArg _ ha).symm.trans (hh j v hv)
  · simp

end Go.Proofs.Ytdgejcbnjelgkaa
