/-
  Package bus's Dump: all bytes that may change, in a new block; and Load of as many bytes.
-/
import Derived.Test.YtlnoomganphbeaaBusImage
import Derived.OwnWalk
namespace Go.Proofs.Ytlnoomganphbeaa
open Go.RowKit

theorem u8_row : (Try.prog.info? 5).map (fun i => (i.zero, i.size, i.bytes)) = some (some (.int .u8 0), 1, 1) := u8_info

theorem room_made (n : Nat) (h : n ≤ 2147483647) (w : World) :
    (Instr.makeSlice 29 (.int .i64 0) (.int .i64 (n : Int))).run Try.prog w = .ok (.slice (some ⟨w.heap.size, 0, none⟩) 0 n) (w.alloc (.cells (u8s (zeros n)).toArray 5)) := by
  obtain ⟨i0, hi, hz0, hz1, hz2⟩ := info_parts u8_info
  have hr := run_make (P := Try.prog) w 29 5 i0 (.int .u8 0) Try.underlying29 hi hz0 .i64 .i64 0 (n : Int) (by omega) (by omega) (by rw [hz2]; omega) (by omega)
  rw [hr]
  rw [Int.toNat_natCast, hz1, Nat.mul_one]
  congr 3
  apply Array.ext'
  rw [show (Value.int IntKind.u8 0).cells = #[Value.int IntKind.u8 0] from rfl, toList_madeCells_one]
  simp [u8s, zeros]
theorem room40964 (w : World) : (Instr.makeSlice 29 (.int .i64 0) (.int .i64 40964)).run Try.prog w = .ok (.slice (some ⟨w.heap.size, 0, none⟩) 0 40964) (w.alloc (.cells (u8s (zeros 40964)).toArray 5)) := room_made 40964 (by omega) w

/-- a block that is known whole, as a row that a call owns, with n of its cells in use -/
theorem Whole.owns {w : World} {g : Nat} {t : TypeId} {cs : List Value} (h : Whole w g t cs) (base : Nat) (hb : base ≤ g) (n : Nat) (hn : n ≤ cs.length) (hl : cs.length ≤ maxLen) :
    w.ownsRow base t 1 (.slice (some ⟨g, 0, none⟩) n cs.length) n (cs.take n) :=
  ⟨by rw [List.length_take]; omega, .inr ⟨g, cs.length, cs.toArray, rfl, hb, h, hn, hl, by simp, by simp⟩⟩
/-- a row that is used up is known whole -/
theorem whole_owned {w : World} {base g n : Nat} {t : TypeId} {xs : List Value} (h : w.ownsRow base t 1 (.slice (some ⟨g, 0, none⟩) n n) n xs) : Whole w g t xs := by
  obtain ⟨hl, hn | ⟨g', cap, cur, hv, hb, hg, h1, h2, h3, h4⟩⟩ := h
  · cases hn.1
  · injection hv with e1 e2 e3
    injection e1 with e1
    injection e1 with e1
    subst e1 e3
    have : cur.toList = xs := by rw [← h4, List.take_of_length_le (by simp [h3])]
    show w.heap[g]? = _
    rw [← this]
    exact hg
theorem BusAt.grown {w w' : World} {b g : Nat} {zs : List Int} {row : Option Nat} (h : BusAt w b g zs) (hb : w.grownBy w' row) (hne : some b ≠ row) : BusAt w' b g zs := ⟨h.1.grown hb hne, h.2⟩
theorem BusAt.next {w w' : World} {b g : Nat} {zs : List Int} (h : BusAt w b g zs) (hb : Below w.heap.size w w') : BusAt w' b g zs := ⟨h.1.under hb h.1.inside, h.2⟩
theorem BusAt.inside {w : World} {b g : Nat} {zs : List Int} (h : BusAt w b g zs) : b < w.heap.size := h.1.inside
theorem BusAt.cells {w : World} {b g : Nat} {zs : List Int} (h : BusAt w b g zs) (o : Nat) (n : Nat) (j : Nat) (v : Value) (hv : (u8s ((zs.drop o).take n))[j]? = some v) : w.cell? ((⟨b, 1 + o, none⟩ : Addr).add j) = some v := by
  have ha : (⟨b, 1 + o, none⟩ : Addr).add j = ⟨b, (o + j) + 1, none⟩ := by
    unfold Addr.add; split <;> simp_all <;> omega
  rw [ha, h.1.at_, List.getElem?_cons_succ, u8s_get]
  rw [u8s_get, List.getElem?_take] at hv
  split at hv
  · rwa [List.getElem?_drop] at hv
  · simp at hv

set_option maxRecDepth 100000 in
set_option maxHeartbeats 1600000 in
theorem dump_any (b g : Nat) (zs : List Int) (w : World) (h : BusAt w b g zs) :
    Calls Try.prog 13 #[.pointer (some ⟨b, 0, none⟩)] w fun e w' => ∃ d, e = .returned (.slice (some ⟨d, 0, none⟩) 40964 40964) ∧ w.heap.size ≤ d ∧ Below w.heap.size w w' ∧ Whole w' d 5 (u8s zs) := by
  obtain ⟨i0, hi, hz0, hz1, hz2⟩ := info_parts u8_info
  have hmk := room40964
  have hbn : b < w.heap.size := h.inside
  have H1 : Hid (BusAt (w.alloc (.cells (u8s (zeros 40964)).toArray 5)) b g zs) := h.next ((Below.refl _ _).alloc (Nat.le_refl _) _)
  have O1 : Hid ((w.alloc (.cells (u8s (zeros 40964)).toArray 5)).ownsRow w.heap.size 5 1 (.slice (some ⟨w.heap.size, 0, none⟩) 0 40964) 0 []) := by
    have := (Whole.fresh w 5 (u8s (zeros 40964))).owns w.heap.size (Nat.le_refl _) 0 (by omega) (by rw [u8s_length, zeros_length]; unfold maxLen; omega)
    rwa [u8s_length, zeros_length] at this
  have B1 : Hid (Below w.heap.size w (w.alloc (.cells (u8s (zeros 40964)).toArray 5))) := (Below.refl _ _).alloc (Nat.le_refl _) _
  obtain ⟨W1, hW1⟩ : ∃ W1, W1 = w.alloc (.cells (u8s (zeros 40964)).toArray 5) := ⟨_, rfl⟩
  rw [← hW1] at H1 O1 B1
  have hmk' : (Instr.makeSlice 29 (.int .i64 0) (.int .i64 40964)).run Try.prog w = .ok (.slice (some ⟨w.heap.size, 0, none⟩) 0 40964) W1 := by rw [hW1]; exact hmk w
  have hl : zs.length = 40964 := h.2.1
  have l1 : (u8s ((zs.drop 0).take 8192)).length = 8192 * 1 := by simp; omega
  have l2 : (u8s ((zs.drop 8192).take 32768)).length = 32768 * 1 := by simp; omega
  have l3 : (u8s ((zs.drop 40960).take 4)).length = 4 * 1 := by simp; omega
  have hall : (([] ++ u8s ((zs.drop 0).take 8192)) ++ u8s ((zs.drop 8192).take 32768)) ++ u8s ((zs.drop 40960).take 4) = u8s zs := by
    rw [List.nil_append, ← u8s_append, ← u8s_append]
    congr 1
    rw [List.drop_zero, List.take_of_length_le (l := zs.drop 40960) (by simp; omega)]
    have e2 : zs.take 8192 ++ (zs.drop 8192).take 32768 = zs.take 40960 := (List.take_add (l := zs) (i := 8192) (j := 32768)).symm
    rw [e2, List.take_append_drop]
  have HA := Lib.hid hall
  have L1 := Lib.hid l1
  have L2 := Lib.hid l2
  have L3 := Lib.hid l3
  have HI := Lib.hid hi
  have HZ := Lib.hid hz1
  clear h hmk hW1 hl l1 l2 l3 hall hi hz0 hz1 hz2
  go_enter Try.func13, Try.ntmps13
  go_wp2_with (first
    | ((with_reducible refine wpList_append_fits _ rfl (.tmp 5) (.tmp 9) 29 rfl w.heap.size 5 i0 1 Try.underlying29 HI.out HZ.out w.heap.size 0 40964 [] rfl O1.out ⟨b, 1, none⟩ 8192 8192 (u8s ((zs.drop 0).take 8192)) rfl L1.out (H1.out.cells 0 8192) (u8s_one _) (by omega) ?_); intro w2 ho2 hg2; have O2 := Lib.hid ho2; have H2 := Lib.hid (H1.out.grown hg2 (by intro e; cases e; omega)); have B2 := Lib.hid (B1.out.grown hg2 B1.out.size (by intro k hk; cases hk; exact Nat.le_refl _)); clear ho2 hg2)
    | ((with_reducible refine wpList_append_fits _ rfl (.tmp 11) (.tmp 15) 29 rfl w.heap.size 5 i0 1 Try.underlying29 HI.out HZ.out w.heap.size 8192 40964 _ rfl O2.out ⟨b, 8193, none⟩ 32768 32768 (u8s ((zs.drop 8192).take 32768)) rfl L2.out (H2.out.cells 8192 32768) (u8s_one _) (by omega) ?_); intro w3 ho3 hg3; have O3 := Lib.hid ho3; have H3 := Lib.hid (H2.out.grown hg3 (by intro e; cases e; omega)); have B3 := Lib.hid (B2.out.grown hg3 B2.out.size (by intro k hk; cases hk; exact Nat.le_refl _)); clear ho3 hg3)
    | ((with_reducible refine wpList_append_fits _ rfl (.tmp 17) (.tmp 21) 29 rfl w.heap.size 5 i0 1 Try.underlying29 HI.out HZ.out w.heap.size 40960 40964 _ rfl O3.out ⟨b, 40961, none⟩ 4 4 (u8s ((zs.drop 40960).take 4)) rfl L3.out (H3.out.cells 40960 4) (u8s_one _) (by omega) ?_); intro w4 ho4 hg4; have O4 := Lib.hid ho4; have B4 := Lib.hid (B3.out.grown hg4 B3.out.size (by intro k hk; cases hk; exact Nat.le_refl _)); clear ho4 hg4))
  go_ret
  refine ⟨w.heap.size, rfl, Nat.le_refl _, B4.out, ?_⟩
  have := whole_owned O4.out
  rwa [HA.out] at this

end Go.Proofs.Ytlnoomganphbeaa
