/-
  The law RomKeeps returns true for every piece and place, and writes nothing that was there.
-/
import Derived.Test.YtdgejcbnjelgkaaRomGrows
import Derived.Laws.BytesArg
namespace Go.Proofs.Ytdgejcbnjelgkaa
open Go.RowKit

theorem new_deep (a : Option Addr) (n cap : Nat) (zs : List Int) (w : World) (hb : Bytes w w.heap.size a n zs) (hn : n ≤ 4194304) (hc : n ≤ cap) :
    Calls Try.prog 8 #[.slice a n cap] w fun e w' => ∃ g d, e = .returned (.pointer (some ⟨g, 0, none⟩)) ∧ w.heap.size ≤ g ∧ w.heap.size ≤ d ∧ Below w.heap.size w w' ∧ RomIn w' g d (romOf zs) :=
  (new_small a n cap zs w hb hn hc).mono fun _ _ ⟨he, h1, h2⟩ => ⟨_, _, he, by omega, Nat.le_refl _, h1, h2⟩

theorem RomIn.next {w w' : World} {g d : Nat} {zs : List Int} (h : RomIn w g d zs) (hb : Below w.heap.size w w') : RomIn w' g d zs := by
  obtain ⟨k, sem, s, h1, h2, h3⟩ := h
  exact ⟨k, sem, s, h1.next hb, h2.next hb, h3⟩
theorem RomIn.other {w : World} {g d : Nat} {zs : List Int} (h : RomIn w g d zs) {p : Addr} (h1 : g ≠ p.block) (h2 : d ≠ p.block) (u : Value) : RomIn (w.setCell p u) g d zs := by
  obtain ⟨k, sem, s, q1, q2, q3⟩ := h
  exact ⟨k, sem, s, q1.other h1 u, q2.other h2 u, q3⟩
theorem RomIn.inside {w : World} {g d : Nat} {zs : List Int} (h : RomIn w g d zs) : g < w.heap.size ∧ d < w.heap.size := by
  obtain ⟨k, sem, s, h1, h2, h3⟩ := h
  exact ⟨h1.inside, h2.inside⟩
theorem RomIn.beside {w w' : World} {g d g' d' : Nat} {zs zs' : List Int} (h : RomIn w g d zs) (h' : RomIn w g' d' zs') (hne : g ≠ g') (hg : w.grownBy w' (some g')) : RomIn w' g d zs := by
  obtain ⟨k, sem, s, h1, h2, h3⟩ := h
  obtain ⟨k', sem', s', h1', h2', h3'⟩ := h'
  have : d ≠ g' := h2.apart h1' (by decide)
  exact ⟨k, sem, s, h1.grown hg (by simpa using hne), h2.grown hg (by simpa using this), h3⟩
theorem RomIn.apart {w : World} {g d b : Nat} {zs : List Int} {cs : List Value} (h : RomIn w g d zs) (hb : Whole w b 5 cs) : b ≠ g := by
  obtain ⟨k, sem, s, h1, h2, h3⟩ := h
  exact hb.apart h1 (by decide)
theorem RomIn.bytes {w w' : World} {g d b : Nat} {zs : List Int} {cs : List Value} (h : RomIn w g d zs) (hb : Whole w b 5 cs) (hg : w.grownBy w' (some g)) : Whole w' b 5 cs :=
  hb.grown hg (by have := h.apart hb; simpa using this)

/-- both cartridges, the bytes that were built, and all bytes as they were answered: each in blocks of its own -/
def KeepsAt (w W : World) (g ga g1 d1 g2 d2 : Nat) (bs : List Int) : Prop :=
  (RomIn W g1 d1 (romOf bs) ∧ RomIn W g2 d2 (romOf bs) ∧ Whole W g 5 (u8s bs) ∧ Whole W ga 5 (u8s (romOf bs)) ∧ Below w.heap.size w W) ∧
  (g1 ≠ g2 ∧ g ≠ ga ∧ d1 ≠ g ∧ d2 ≠ g ∧ d1 ≠ ga ∧ d2 ≠ ga ∧ w.heap.size ≤ g ∧ w.heap.size ≤ ga ∧ w.heap.size ≤ g1 ∧ w.heap.size ≤ g2)
theorem KeepsAt.made {w w1 w2 w3 w4 w5 : World} {g ga g1 d1 g2 d2 : Nat} {bs : List Int} {o : Obj} (hb1 : Below (w.alloc o).heap.size (w.alloc o) w1) (hg : w1.heap.size ≤ g) (hb2 : Below w1.heap.size w1 w2) (hw2 : Whole w2 g 5 (u8s bs))
    (hg1 : w2.heap.size ≤ g1) (hd1 : w2.heap.size ≤ d1) (hb3 : Below w2.heap.size w2 w3) (hr3 : RomIn w3 g1 d1 (romOf bs))
    (hga : ga = w3.heap.size) (hw4 : Whole w4 ga 5 (u8s (romOf bs))) (hb4 : Below w3.heap.size w3 w4)
    (hg2 : w4.heap.size ≤ g2) (hd2 : w4.heap.size ≤ d2) (hb5 : Below w4.heap.size w4 w5) (hr5 : RomIn w5 g2 d2 (romOf bs)) : KeepsAt w w5 g ga g1 d1 g2 d2 bs := by
  have b1 := below_next ((Below.refl _ w).alloc (Nat.le_refl _) o) hb1
  have b2 := below_next b1 hb2
  have b3 := below_next b2 hb3
  have b4 := below_next b3 hb4
  have s1 := b1.size
  have s2 := hb2.size
  have s3 := hb3.size
  have s4 := hb4.size
  have i2 := hw2.inside
  have i3 := hr3.inside
  have i4 := hw4.inside
  exact ⟨⟨(hr3.next hb4).next hb5, hr5, ((hw2.next hb3).next hb4).next hb5, hw4.next hb5, below_next b4 hb5⟩, by omega, by omega, by omega, by omega, by omega, by omega, by omega, by omega, by omega, by omega⟩
section
variable {w W W' : World} {g ga g1 d1 g2 d2 : Nat} {bs : List Int}
theorem KeepsAt.rom1 (h : KeepsAt w W g ga g1 d1 g2 d2 bs) : RomAt W g1 (romOf bs) := ⟨_, h.1.1⟩
theorem KeepsAt.rom2 (h : KeepsAt w W g ga g1 d1 g2 d2 bs) : RomAt W g2 (romOf bs) := ⟨_, h.1.2.1⟩
theorem KeepsAt.sum1 (h : KeepsAt w W g ga g1 d1 g2 d2 bs) (hr : RomIn W' g1 d1 (romOf bs) ∧ W.grownBy W' (some g1)) : KeepsAt w W' g ga g1 d1 g2 d2 bs :=
  ⟨⟨hr.1, h.1.2.1.beside h.1.1 (Ne.symm h.2.1) hr.2, h.1.1.bytes h.1.2.2.1 hr.2, h.1.1.bytes h.1.2.2.2.1 hr.2, below_row h.1.2.2.2.2 hr.2 h.2.2.2.2.2.2.2.2.2.1⟩, h.2⟩
theorem KeepsAt.sum2 (h : KeepsAt w W g ga g1 d1 g2 d2 bs) (hr : RomIn W' g2 d2 (romOf bs) ∧ W.grownBy W' (some g2)) : KeepsAt w W' g ga g1 d1 g2 d2 bs :=
  ⟨⟨h.1.1.beside h.1.2.1 h.2.1 hr.2, hr.1, h.1.2.1.bytes h.1.2.2.1 hr.2, h.1.2.1.bytes h.1.2.2.2.1 hr.2, below_row h.1.2.2.2.2 hr.2 h.2.2.2.2.2.2.2.2.2.2⟩, h.2⟩
theorem KeepsAt.below (h : KeepsAt w W g ga g1 d1 g2 d2 bs) (hb : Below W.heap.size W W') : KeepsAt w W' g ga g1 d1 g2 d2 bs :=
  ⟨⟨h.1.1.next hb, h.1.2.1.next hb, h.1.2.2.1.next hb, h.1.2.2.2.1.next hb, below_next h.1.2.2.2.2 hb⟩, h.2⟩
end

theorem romOf_full (bs : List Int) (h : bs.length ≤ 4194304) : romOf (romOf bs) = romOf bs := by
  have hl := romOf_length bs h
  have hb := bk_at bs.length
  have hk : bk (romOf bs).length = bk bs.length := by
    have h2 : BkAt (romOf bs).length (bk bs.length) := by
      refine ⟨hb.1, ?_⟩
      have := hb.1
      rw [hl]; omega
    have := hb.1
    exact (h2.fin (by rw [hl]; omega)).symm
  rw [romOf, hk, hl]
  simp

theorem bytes_len (b : Nat) (zs : List Int) (R : Nat) (hR : R = zs.length) (M : Int) (hM : RomFit zs M) (w : World) (h : RomAt w b zs) :
    Calls Try.prog 14 #[.pointer (some ⟨b, 0, none⟩)] w fun e w' => ∃ ga, e = .returned (.slice (some ⟨ga, 0, none⟩) R R) ∧ ga = w.heap.size ∧ Whole w' ga 5 (u8s zs) ∧ Below w.heap.size w w' := by
  subst hR
  exact (bytes_any b zs M hM w h).mono fun _ _ ⟨he, h1, h2⟩ => ⟨_, he, rfl, h1, h2⟩
theorem new_full (a : Option Addr) (n cap : Nat) (bs : List Int) (hf : romOf (romOf bs) = romOf bs) (w : World) (hb : Bytes w w.heap.size a n (romOf bs)) (hn : n ≤ 4194304) (hc : n ≤ cap) :
    Calls Try.prog 8 #[.slice a n cap] w fun e w' => ∃ g d, e = .returned (.pointer (some ⟨g, 0, none⟩)) ∧ w.heap.size ≤ g ∧ w.heap.size ≤ d ∧ Below w.heap.size w w' ∧ RomIn w' g d (romOf bs) := by
  have h := new_deep a n cap (romOf bs) w hb hn hc
  rwa [hf] at h

theorem text_of {w : World} {g R c : Nat} {zs : List Int} (hR : R = zs.length) (h : Whole w g 5 (u8s zs)) :
    (convert 25 9 (.slice (some ⟨g, 0, none⟩) R c)).run Try.prog w = .ok (.string (strOfNums zs)) w := by
  subst hR
  refine run_convert_bytes_arg w 25 5 Try.underlying25 Try.underlying5 g 0 zs.length c zs rfl (fun i hi => ?_) 9 Try.underlying9
  rw [Nat.zero_add, h.at_ i, u8s_get]
  simp [List.getD_eq_getElem?_getD, hi]

theorem place_one (M : Int) (i : Nat) (h : (i : Int) < M * 16384) : ((i : Int) / 16384 % M * 16384 + (i : Int) % 16384).toNat = i := by
  have h1 : (i : Int) / 16384 % M = (i : Int) / 16384 := Int.emod_eq_of_lt (by omega) (by omega)
  rw [h1]; omega
theorem byte_at {W : World} {g : Nat} {zs : List Int} (h : Whole W g 5 (u8s zs)) (i : Nat) (hi : (i : Int) < (zs.length : Int)) : W.cell? ⟨g, i, none⟩ = some (.int .u8 (zs.getD i 0)) := by
  rw [h.at_ i, u8s_get, List.getElem?_eq_getElem (by omega), Option.map_some, List.getD_eq_getElem?_getD, List.getElem?_eq_getElem (by omega)]
  rfl
theorem keeps_rom1 {w W : World} {g ga g1 d1 g2 d2 : Nat} {bs : List Int} (h : KeepsAt w W g ga g1 d1 g2 d2 bs) (i : Nat) {X Y : Value} : RomAt ((W.setCell ⟨g, i, none⟩ X).setCell ⟨ga, i, none⟩ Y) g1 (romOf bs) :=
  ⟨d1, (h.1.1.other (p := ⟨g, i, none⟩) (Ne.symm (h.1.1.apart h.1.2.2.1)) h.2.2.2.1 X).other (p := ⟨ga, i, none⟩) (Ne.symm (h.1.1.apart h.1.2.2.2.1)) h.2.2.2.2.2.1 Y⟩
theorem keeps_rom2 {w W : World} {g ga g1 d1 g2 d2 : Nat} {bs : List Int} (h : KeepsAt w W g ga g1 d1 g2 d2 bs) (i : Nat) {X Y : Value} : RomAt ((W.setCell ⟨g, i, none⟩ X).setCell ⟨ga, i, none⟩ Y) g2 (romOf bs) :=
  ⟨d2, (h.1.2.1.other (p := ⟨g, i, none⟩) (Ne.symm (h.1.2.1.apart h.1.2.2.1)) h.2.2.2.2.1 X).other (p := ⟨ga, i, none⟩) (Ne.symm (h.1.2.1.apart h.1.2.2.2.1)) h.2.2.2.2.2.2.1 Y⟩

theorem keeps_long (a : Option Addr) (n cap : Nat) (m p x t : Int) (w : World) (hn : 5000 < n) :
    Calls Try.prog 5 #[.agg #[.slice a n cap, .int .i64 m, .int .i64 p, .int .u8 x], .int .i64 t] w fun e w' => e = .returned (.bool true) ∧ Below w.heap.size w w' := by
  have hn' : (5000 : Int) < (n : Int) := by omega
  have h0 : Whole (w.alloc (.cells #[.slice a n cap, .int .i64 m, .int .i64 p, .int .u8 x] 29)) w.heap.size 29 [.slice a n cap, .int .i64 m, .int .i64 p, .int .u8 x] := Whole.fresh _ _ _
  have H0 := Lib.hid h0
  clear h0
  go_enter Try.func5, Try.ntmps5
  go_wp2_with (go_at_call 7; refine (alive_any _).mono ?_; rintro e w1 ⟨rfl, hb1⟩; have c0 : w1.cell? ⟨w.heap.size, 0, none⟩ = some (.slice a n cap) := (H0.out.next hb1).at_ 0)
  go_ret
  exact ⟨rfl, below_next ((Below.refl _ _).alloc (Nat.le_refl _) _) hb1⟩

set_option maxRecDepth 100000 in
set_option maxHeartbeats 3200000 in
theorem keeps_short (a : Option Addr) (n cap : Nat) (zs : List Int) (m p x t : Int) (w : World) (hb : Bytes w w.heap.size a n zs) (hn : n ≤ 5000) :
    Calls Try.prog 5 #[.agg #[.slice a n cap, .int .i64 m, .int .i64 p, .int .u8 x], .int .i64 t] w fun e w' => e = .returned (.bool true) ∧ Below w.heap.size w w' := by
  have hn' : ¬ (5000 : Int) < (n : Int) := by omega
  have H0 : Hid (Whole (w.alloc (.cells #[.slice a n cap, .int .i64 m, .int .i64 p, .int .u8 x] 29)) w.heap.size 29 [.slice a n cap, .int .i64 m, .int .i64 p, .int .u8 x]) := Whole.fresh _ _ _
  have HB := Lib.hid hb
  clear hb
  obtain ⟨L, hL⟩ : ∃ L, L = (many m).toNat := ⟨_, rfl⟩
  obtain ⟨bs, hbs⟩ : ∃ bs, bs = built zs m p x := ⟨_, rfl⟩
  have hlen : bs.length = L := by rw [hbs, hL, built_length]
  have hL3 : L ≤ 300000 := by have := many_bd m; omega
  have HL := Lib.hid hL
  have HS := Lib.hid hbs
  have HN := Lib.hid hlen
  clear hL hbs hlen
  obtain ⟨M, hM⟩ : ∃ M, M = bk L := ⟨_, rfl⟩
  have hF : RomFit (romOf bs) M := by rw [hM, ← HN.out]; exact romOf_fit bs (by rw [HN.out]; omega)
  have HF := Lib.hid hF
  obtain ⟨hM1, hM2⟩ := hF.bd
  have hroom : (L : Int) ≤ M * 16384 := by rw [hM]; exact (bk_room L (by omega)).1
  obtain ⟨R, hR⟩ : ∃ R, R = (romOf bs).length := ⟨_, rfl⟩
  have hR1 : (R : Int) = M * 16384 := by rw [hR]; exact hF.2
  have hR2 : R ≤ 4194304 := by omega
  have HR := Lib.hid hR
  have HR1 := Lib.hid hR1
  have HFull := Lib.hid (romOf_full bs (by rw [HN.out]; omega))
  clear hM hF hR hR1
  obtain ⟨T, hT⟩ : ∃ T : Nat, (T : Int) = max 0 t := ⟨(max 0 t).toNat, by omega⟩
  have HT := Lib.hid hT
  clear hT
  have hway : ¬ (0 : Int) < (L : Int) ∨ ((0 : Int) < (L : Int) ∧ ∃ i : Nat, (i : Int) < (L : Int) ∧ (T : Int).tmod (L : Int) = (i : Int) ∧ (T : Int) % (L : Int) = (i : Int) ∧ Hid ((romOf bs).getD ((i : Int) / 16384 % M * 16384 + (i : Int) % 16384).toNat 0 = (romOf bs).getD i 0)) := by
    by_cases h : (0 : Int) < (L : Int)
    · refine .inr ⟨h, T % L, ?_, ?_, ?_, ?_⟩
      · have := Nat.mod_lt T (show 0 < L by omega); omega
      · rw [Int.tmod_eq_emod_of_nonneg (by omega), Int.natCast_emod]
      · rw [Int.natCast_emod]
      · have hl := Nat.mod_lt T (show 0 < L by omega)
        rw [place_one M (T % L) (by omega)]
        exact rfl
    · exact .inl h
  go_enter Try.func5, Try.ntmps5
  go_wp2_with (first
    | (go_at_call 7; refine (alive_any _).mono ?_; rintro e w1 ⟨rfl, hb1⟩; have c0 : w1.cell? ⟨w.heap.size, 0, none⟩ = some (.slice a n cap) := (H0.out.next hb1).at_ 0; have c1 : w1.cell? ⟨w.heap.size, 1, none⟩ = some (.int .i64 m) := (H0.out.next hb1).at_ 1; have c2 : w1.cell? ⟨w.heap.size, 2, none⟩ = some (.int .i64 p) := (H0.out.next hb1).at_ 2; have c3 : w1.cell? ⟨w.heap.size, 3, none⟩ = some (.int .u8 x) := (H0.out.next hb1).at_ 3)
    | (go_at_call 11; refine (build_open a n cap zs bs m p x L HL.out HS.out _ ((HB.out.next ((Below.refl _ _).alloc (Nat.le_refl _) _)).next hb1) hn).mono ?_; rintro e w2 ⟨g, rfl, hg, hb2, hw2⟩; have HW2 := Lib.hid hw2; clear hw2 c0 c1 c2 c3)
    | (go_at_call_of 8 (Value.slice (some ⟨g, 0, none⟩) L L); refine (new_deep _ L L bs _ (by have h := Bytes.ofWhole HW2.out; rwa [HN.out] at h) (by omega) (by omega)).mono ?_; rintro e w3 ⟨g1, d1, rfl, hg1, hd1, hb3, hr3⟩)
    | (go_at_call 14; refine (bytes_len g1 (romOf bs) R HR.out M HF.out _ ⟨d1, hr3⟩).mono ?_; rintro e w4 ⟨ga, rfl, hga, hw4, hb4⟩; have HW4 := Lib.hid hw4; have HGA := Lib.hid hga; clear hw4 hga)
    | (go_at_call 8; refine (new_full _ R R bs HFull.out _ (by have h := Bytes.ofWhole HW4.out; rwa [← HR.out] at h) (by omega) (by omega)).mono ?_; rintro e w5 ⟨g2, d2, rfl, hg2, hd2, hb5, hr5⟩; have K5 : KeepsAt w w5 g ga g1 d1 g2 d2 bs := KeepsAt.made hb1 hg hb2 HW2.out hg1 hd1 hb3 hr3 HGA.out HW4.out hb4 hg2 hd2 hb5 hr5; clear hb1 hg hb2 HW2 hg1 hd1 hb3 hr3 HGA HW4 hb4 hg2 hd2 hb5 hr5))
  have KD : KeepsAt w w5.drew g ga g1 d1 g2 d2 bs := K5.below ((Below.refl _ _).drew)
  clear K5
  go_region_with (first
    | (go_at_call_of 10 (Value.pointer (some ⟨g1, 0, none⟩)); refine (banks_any g1 (romOf bs) M HF.out _ KD.rom1).mono ?_; rintro e w' ⟨rfl, rfl⟩)
    | (go_at_call 10; refine (banks_any g2 (romOf bs) M HF.out _ KD.rom2).mono ?_; rintro e w' ⟨rfl, rfl⟩)
    | (go_at_call_of 15 (Value.pointer (some ⟨g1, 0, none⟩)); refine (sum_in g1 d1 (romOf bs) M HF.out _ KD.1.1).mono ?_; rintro e w6 ⟨rfl, hr6⟩; have K6 : KeepsAt w w6 g ga g1 d1 g2 d2 bs := KD.sum1 hr6; clear hr6)
    | (go_at_call 15; refine (sum_in g2 d2 (romOf bs) M HF.out _ K6.1.2.1).mono ?_; rintro e w7 ⟨rfl, hr7⟩; have K7 : KeepsAt w w7 g ga g1 d1 g2 d2 bs := K6.sum2 hr7; have cv7 := text_of (c := R) HR.out K7.1.2.2.2.1; clear hr7)
    | (go_at_call 14; refine (bytes_len g2 (romOf bs) R HR.out M HF.out _ K7.rom2).mono ?_; rintro e w8 ⟨gb, rfl, -, hw8, hb8⟩; have K8 : KeepsAt w w8 g ga g1 d1 g2 d2 bs := K7.below hb8; have cv8 := text_of (c := R) HR.out K8.1.2.2.2.1; have cvb := text_of (c := R) HR.out hw8; clear hw8 hb8))
  all_goals
    clear cv7 cv8 cvb KD K6 K7
    rcases hway with h0 | ⟨hp, i, hi, ht, he, hv⟩
    · have KH := Lib.hid K8
      clear K8
      go_wp2_with (go_at_call 10; refine (banks_any g1 (romOf bs) M HF.out _ KH.out.rom1).mono ?_; rintro e w' ⟨rfl, rfl⟩)
      go_ret
      exact ⟨rfl, KH.out.1.2.2.2.2⟩
    · have KH := Lib.hid K8
      obtain ⟨v, hv'⟩ : ∃ v, v = (romOf bs).getD i 0 := ⟨_, rfl⟩
      have HV : Hid ((romOf bs).getD ((i : Int) / 16384 % M * 16384 + (i : Int) % 16384).toNat 0 = v) := by rw [hv']; exact hv.out
      have cg : w8.cell? ⟨g, i, none⟩ = some (.int .u8 (bs.getD i 0)) := byte_at KH.out.1.2.2.1 i (by rw [HN.out]; exact hi)
      have fg : w8.frozen? ⟨g, i, none⟩ = false := KH.out.1.2.2.1.free i
      have cga : ∀ X, (w8.setCell ⟨g, i, none⟩ X).cell? ⟨ga, i, none⟩ = some (.int .u8 v) := fun X => by
        rw [hv']
        exact byte_at (KH.out.1.2.2.2.1.other (p := ⟨g, i, none⟩) (Ne.symm KH.out.2.2.1) X) i (by have := HR1.out; rw [← HR.out]; omega)
      have fga : ∀ X, (w8.setCell ⟨g, i, none⟩ X).frozen? ⟨ga, i, none⟩ = false := fun X => (KH.out.1.2.2.2.1.other (p := ⟨g, i, none⟩) (Ne.symm KH.out.2.2.1) X).free i
      have hiR : (i : Int) < (R : Int) := by have := HR1.out; omega
      clear hv' K8
      go_wp2_with (first
        | (with_reducible refine max_at rfl (.const (.int .i64 0)) (.tmp 49) _ rfl .i64 .i64 0 t rfl rfl ↑T HT.out ?_)
        | (go_at_call_of 9 (Value.pointer (some ⟨g1, 0, none⟩)); refine (at_is g1 (romOf bs) M HF.out _ (by first | exact KH.out.rom1 | exact keeps_rom1 KH.out i) _ _ v HV.out).mono ?_; rintro e w' ⟨rfl, rfl⟩)
        | (go_at_call 9; refine (at_is g2 (romOf bs) M HF.out _ (by exact keeps_rom2 KH.out i) _ _ v HV.out).mono ?_; rintro e w' ⟨rfl, rfl⟩)
        | (go_at_call 10; refine (banks_any g1 (romOf bs) M HF.out _ (by exact keeps_rom1 KH.out i)).mono ?_; rintro e w' ⟨rfl, rfl⟩))
      go_ret
      exact ⟨rfl, (KH.out.1.2.2.2.2.setCell (p := ⟨g, i, none⟩) KH.out.2.2.2.2.2.2.2.1 _).setCell (p := ⟨ga, i, none⟩) KH.out.2.2.2.2.2.2.2.2.1 _⟩

end Go.Proofs.Ytdgejcbnjelgkaa
