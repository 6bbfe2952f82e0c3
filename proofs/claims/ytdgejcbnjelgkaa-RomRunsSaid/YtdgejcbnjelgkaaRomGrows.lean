/-
  The law RomGrows returns true for every piece and place, and writes nothing that was there.
-/
import Derived.Test.YtdgejcbnjelgkaaRomBuild
import Derived.Test.YtdgejcbnjelgkaaRomNames
import Derived.Deep.QuietTactic
import Derived.BigQuiet
namespace Go.Proofs.Ytdgejcbnjelgkaa
open Go.RowKit

theorem build_open (a : Option Addr) (n cap : Nat) (zs bs : List Int) (m p x : Int) (L : Nat) (hL : L = (many m).toNat) (hbs : bs = built zs m p x) (w : World) (hb : Bytes w w.heap.size a n zs) (hn : n ≤ 5000) :
    Calls Try.prog 11 #[.agg #[.slice a n cap, .int .i64 m, .int .i64 p, .int .u8 x]] w fun e w' =>
      ∃ g, e = .returned (.slice (some ⟨g, 0, none⟩) L L) ∧ w.heap.size ≤ g ∧ Below w.heap.size w w' ∧ Whole w' g 5 (u8s bs) := by
  subst hL; subst hbs
  exact (build_any a n cap zs m p x w hb hn).mono fun _ _ ⟨he, h1, h2⟩ => ⟨_, he, by omega, h1, h2⟩

theorem Whole.next {w w' : World} {g : Nat} {t : TypeId} {cs : List Value} (h : Whole w g t cs) (hb : Below w.heap.size w w') : Whole w' g t cs := h.under hb h.inside
theorem Bytes.ofOwn {w : World} {base : Nat} {v : Value} {n : Nat} {zs : List Int} (h : w.ownsRow base 5 1 v n (u8s zs)) : ∃ A c, v = .slice A n c ∧ n ≤ c ∧ Bytes w w.heap.size A n zs := by
  obtain ⟨hl, hc⟩ := h
  have hl' : zs.length = n := by simpa using hl
  rcases hc with ⟨rfl, rfl⟩ | ⟨g, cap, cur, rfl, hb, hg, hnc, hm, hs, ht⟩
  · exact ⟨none, 0, rfl, Nat.le_refl _, hl', fun h => absurd h (by omega)⟩
  · refine ⟨_, _, rfl, hnc, hl', fun _ => ⟨g, 0, rfl, (Array.getElem?_eq_some_iff.1 hg).1, fun i hi => ?_⟩⟩
    rw [Nat.zero_add, cell_of_row w g i cur _ _ hg]
    have e : (u8s zs)[i]? = cur[i]? := by
      rw [← ht, List.getElem?_take, if_pos (by omega)]; simp
    rw [← e, u8s_get]
    simp [List.getD_eq_getElem?_getD, hl', hi]

theorem bk_at (n : Int) : BkAt n (bk n) := by
  unfold bk BkAt
  repeat' split
  all_goals omega
theorem bk_more (L : Nat) (h : (L : Int) < bk L * 16384) : bk ((L + 1 : Nat) : Int) = bk L := by
  have h1 := bk_at L
  have h2 : BkAt ((L + 1 : Nat) : Int) (bk L) := ⟨h1.1, by have := h1.2; omega⟩
  exact (h2.fin (by omega)).symm
theorem romOf_more (bs : List Int) (hL : bs.length ≤ 300000) (h : (bs.length : Int) < bk bs.length * 16384) : romOf (bs ++ [0]) = romOf bs := by
  have hk := bk_more bs.length h
  have hr := bk_room bs.length (by omega)
  have e : (bk bs.length).toNat * 16384 - bs.length = ((bk bs.length).toNat * 16384 - (bs.length + 1)) + 1 := by omega
  have e2 : [0] ++ List.replicate ((bk bs.length).toNat * 16384 - (bs.length + 1)) (0 : Int) = List.replicate ((bk bs.length).toNat * 16384 - bs.length) 0 := by
    rw [e, List.replicate_succ, List.singleton_append]
  rw [romOf, romOf, List.length_append, List.length_singleton, hk, List.append_assoc]
  exact congrArg (bs ++ ·) e2
theorem romOf_in (bs : List Int) (i : Nat) (h : i < bs.length) : (romOf bs).getD i 0 = bs.getD i 0 := by
  rw [romOf, List.getD_eq_getElem?_getD, List.getElem?_append_left h, List.getD_eq_getElem?_getD]
theorem romOf_behind (bs : List Int) (i : Nat) (h : bs.length ≤ i) : (romOf bs).getD i 0 = 0 := by
  rw [romOf, List.getD_eq_getElem?_getD, List.getElem?_append_right h, List.getElem?_replicate]
  split <;> rfl
theorem place (M : Int) (i : Nat) (h : (i : Int) < M * 16384) : ((i : Int) / 16384 % M * 16384 + (i : Int) % 16384 % 16384).toNat = i := by
  have h1 : (i : Int) / 16384 % M = (i : Int) / 16384 := Int.emod_eq_of_lt (by omega) (by omega)
  rw [h1]; omega
theorem place_round (M : Int) (i : Nat) (h : (i : Int) < M * 16384) : (((i : Int) / 16384 + M) % M * 16384 + (i : Int) % 16384).toNat = i := by
  have h1 : (i : Int) / 16384 % M = (i : Int) / 16384 := Int.emod_eq_of_lt (by omega) (by omega)
  rw [Int.add_emod_right, h1]; omega

theorem grows_long (a : Option Addr) (n cap : Nat) (m p x t : Int) (w : World) (hn : 5000 < n) :
    Calls Try.prog 6 #[.agg #[.slice a n cap, .int .i64 m, .int .i64 p, .int .u8 x], .int .i64 t] w fun e w' => e = .returned (.bool true) ∧ Below w.heap.size w w' := by
  have hn' : (5000 : Int) < (n : Int) := by omega
  have h0 : Whole (w.alloc (.cells #[.slice a n cap, .int .i64 m, .int .i64 p, .int .u8 x] 29)) w.heap.size 29 [.slice a n cap, .int .i64 m, .int .i64 p, .int .u8 x] := Whole.fresh _ _ _
  have H0 := Lib.hid h0
  clear h0
  go_enter Try.func6, Try.ntmps6
  go_wp2_with (go_at_call 7; refine (alive_any _).mono ?_; rintro e w1 ⟨rfl, hb1⟩; have c0 : w1.cell? ⟨w.heap.size, 0, none⟩ = some (.slice a n cap) := (H0.out.next hb1).at_ 0)
  go_ret
  exact ⟨rfl, below_next ((Below.refl _ _).alloc (Nat.le_refl _) _) hb1⟩

theorem own_empty (w : World) : (w.alloc (.cells #[] 5)).ownsRow w.heap.size 5 1 (.slice (some ⟨w.heap.size, 0, none⟩) 0 0) 0 (u8s []) :=
  World.ownsRow_made w #[] 0 (Nat.le_refl _) (by unfold maxLen; omega) rfl

theorem own_back {w : World} {base L : Nat} {v : Value} {bs : List Int} (h : w.ownsRow base 5 1 v (0 + L + 1) (u8s [] ++ u8s bs ++ u8s [0])) :
    ∃ A c, v = .slice A (L + 1) c ∧ L + 1 ≤ c ∧ Bytes w w.heap.size A (L + 1) (bs ++ [0]) := by
  rw [Nat.zero_add] at h
  exact Bytes.ofOwn (zs := bs ++ [0]) (by simpa [u8s] using h)

/-- what is known when both cartridges are made: the first, the second, the bytes, and that nothing old has turned -/
def GrowsAt (w W : World) (g g1 g2 : Nat) (bs : List Int) : Prop :=
  RomAt W g1 (romOf bs) ∧ RomAt W g2 (romOf (bs ++ [0])) ∧ g1 ≠ g2 ∧ Whole W g 5 (u8s bs) ∧ Below w.heap.size w W ∧ w.heap.size ≤ g1 ∧ w.heap.size ≤ g2
theorem GrowsAt.made {w w1 w2 w3 w4 w5 w6 : World} {g g1 g2 L : Nat} {bs : List Int} {v1 : Value} {o : Obj} {xs : List Value} (hb1 : Below (w.alloc o).heap.size (w.alloc o) w1) (hb2 : Below w1.heap.size w1 w2) (hw2 : Whole w2 g 5 (u8s bs))
    (hg1 : w2.heap.size ≤ g1) (hb3 : Below w2.heap.size w2 w3) (hr3 : RomAt w3 g1 (romOf bs))
    (ho1 : w4.ownsRow w3.heap.size 5 1 v1 (0 + L) xs)
    (hgr1 : (w3.alloc (.cells #[] 5)).grownBy w4 (Value.ownBlock (.slice (some ⟨w3.heap.size, 0, none⟩) 0 0)))
    (hgr2 : (w4.alloc (.cells #[.int .u8 0] 5)).grownBy w5 v1.ownBlock)
    (hg2 : w5.heap.size ≤ g2) (hb6 : Below w5.heap.size w5 w6) (hr6 : RomAt w6 g2 (romOf (bs ++ [0]))) : GrowsAt w w6 g g1 g2 bs := by
  have a3 : Below w3.heap.size w3 w4 := ((Below.refl _ _).alloc (Nat.le_refl _) _).grown hgr1 (by simp) (by intro k hk; simp [Value.ownBlock] at hk; omega)
  have a5 : Below w3.heap.size w3 w5 := (a3.alloc a3.size _).grown hgr2 (by have := a3.size; simp; omega) (fun k hk => (ho1.lt k hk).1)
  have b3 := below_next (below_next (below_next ((Below.refl _ w).alloc (Nat.le_refl _) o) hb1) hb2) hb3
  have b5 := below_next b3 a5
  have s2 := (below_next (below_next ((Below.refl _ w).alloc (Nat.le_refl _) o) hb1) hb2).size
  have := hr3.inside
  have := a5.size
  have := b3.size
  exact ⟨(hr3.next a5).next hb6, hr6, by omega, ((hw2.next hb3).next a5).next hb6, below_next b5 hb6, by omega, by omega⟩
theorem GrowsAt.sum2 {w W W' : World} {g g1 g2 : Nat} {bs : List Int} (h : GrowsAt w W g g1 g2 bs) (hr : RomAt W' g2 (romOf (bs ++ [0])) ∧ W.grownBy W' (some g2)) : GrowsAt w W' g g1 g2 bs := by
  obtain ⟨h1, h2, h3, h4, h5, h6, h7⟩ := h
  obtain ⟨d, k, sem, s, q1, q2, q3⟩ := h2
  exact ⟨h1.beside ⟨d, k, sem, s, q1, q2, q3⟩ h3 hr.2, hr.1, h3, h4.grown hr.2 (by have := h4.apart q1 (by decide); simpa using this), below_row h5 hr.2 h7, h6, h7⟩
theorem GrowsAt.sum1 {w W W' : World} {g g1 g2 : Nat} {bs : List Int} (h : GrowsAt w W g g1 g2 bs) (hr : RomAt W' g1 (romOf bs) ∧ W.grownBy W' (some g1)) : GrowsAt w W' g g1 g2 bs := by
  obtain ⟨h1, h2, h3, h4, h5, h6, h7⟩ := h
  obtain ⟨d, k, sem, s, q1, q2, q3⟩ := h1
  exact ⟨hr.1, h2.beside ⟨d, k, sem, s, q1, q2, q3⟩ (Ne.symm h3) hr.2, h3, h4.grown hr.2 (by have := h4.apart q1 (by decide); simpa using this), below_row h5 hr.2 h6, h6, h7⟩

theorem GrowsAt.rom1 {w W : World} {g g1 g2 : Nat} {bs : List Int} (h : GrowsAt w W g g1 g2 bs) : RomAt W g1 (romOf bs) := h.1
theorem GrowsAt.rom2 {w W : World} {g g1 g2 : Nat} {bs : List Int} (h : GrowsAt w W g g1 g2 bs) : RomAt W g2 (romOf (bs ++ [0])) := h.2.1
theorem GrowsAt.below {w W : World} {g g1 g2 : Nat} {bs : List Int} (h : GrowsAt w W g g1 g2 bs) : Below w.heap.size w W := h.2.2.2.2.1
theorem GrowsAt.bytes {w W : World} {g g1 g2 : Nat} {bs : List Int} (h : GrowsAt w W g g1 g2 bs) : Whole W g 5 (u8s bs) := h.2.2.2.1
theorem whole_news {w : World} {g : Nat} {t : TypeId} {cs : List Value} (h : Whole w g t cs) : ∀ j u, cs[j]? = some u → w.cell? ((⟨g, 0, none⟩ : Addr).add j) = some u := by
  intro j u hu
  have ha : (⟨g, 0, none⟩ : Addr).add j = ⟨g, j, none⟩ := by unfold Addr.add; split <;> simp_all
  rw [ha, h.at_ j, hu]
theorem below_size {w w' : World} {o : Obj} {row : Option Nat} (h : (w.alloc o).grownBy w' row) : w.heap.size + 1 ≤ w'.heap.size := by
  have := h.size
  simpa using this

theorem cell_of {w W : World} {g g1 g2 : Nat} {bs : List Int} (h : GrowsAt w W g g1 g2 bs) (i : Nat) (hi : (i : Int) < (bs.length : Int)) : W.cell? ⟨g, i, none⟩ = some (.int .u8 (bs.getD i 0)) := by
  rw [h.bytes.at_ i, u8s_get, List.getElem?_eq_getElem (by omega), Option.map_some, List.getD_eq_getElem?_getD, List.getElem?_eq_getElem (by omega)]
  rfl

theorem RomAt.drawnN {w : World} {g : Nat} {zs : List Int} (h : RomAt w g zs) (n : Nat) : Hid (RomAt (w.drewN n) g zs) := h

theorem sum_is (b : Nat) (zs ys : List Int) (hz : zs = ys) (M : Int) (hM : RomFit zs M) (w : World) (h : RomAt w b zs) :
    Calls Try.prog 15 #[.pointer (some ⟨b, 0, none⟩)] w fun e w' => e = .returned (.int .u32 (fnv ys)) ∧ (RomAt w' b zs ∧ w.grownBy w' (some b)) := by
  subst hz
  exact sum_any b zs M hM w h
theorem at_same (b : Nat) (zs : List Int) (M : Int) (hM : RomFit zs M) (w : World) (h : RomAt w b zs) (x y v : Int) (hv : zs.getD (x % M * 16384 + y % 16384).toNat 0 = v) :
    Calls Try.prog 9 #[.pointer (some ⟨b, 0, none⟩), .int .i64 x, .int .i64 y] w fun e w' => e = .returned (.int .u8 v) ∧ w' = w :=
  (at_is b zs M hM w h x y v hv).mono fun _ _ h => ⟨h.1, h.2.symm⟩
theorem banks_same (b : Nat) (zs : List Int) (M : Int) (hM : RomFit zs M) (w : World) (h : RomAt w b zs) :
    Calls Try.prog 10 #[.pointer (some ⟨b, 0, none⟩)] w fun e w' => e = .returned (.int .i64 M) ∧ w' = w :=
  (banks_any b zs M hM w h).mono fun _ _ h => ⟨h.1, h.2.symm⟩

set_option maxRecDepth 100000 in
set_option maxHeartbeats 3200000 in
theorem grows_short (a : Option Addr) (n cap : Nat) (zs : List Int) (m p x t : Int) (w : World) (hb : Bytes w w.heap.size a n zs) (hn : n ≤ 5000) :
    Calls Try.prog 6 #[.agg #[.slice a n cap, .int .i64 m, .int .i64 p, .int .u8 x], .int .i64 t] w fun e w' => e = .returned (.bool true) ∧ Below w.heap.size w w' := by
  obtain ⟨i0, hi, hz0, hz1, hz2⟩ := info_parts u8_info
  have hn' : ¬ (5000 : Int) < (n : Int) := by omega
  have H0 : Hid (Whole (w.alloc (.cells #[.slice a n cap, .int .i64 m, .int .i64 p, .int .u8 x] 29)) w.heap.size 29 [.slice a n cap, .int .i64 m, .int .i64 p, .int .u8 x]) := Whole.fresh _ _ _
  have HB := Lib.hid hb
  clear hb
  obtain ⟨L, hL⟩ : ∃ L, L = (many m).toNat := ⟨_, rfl⟩
  obtain ⟨bs, hbs⟩ : ∃ bs, bs = built zs m p x := ⟨_, rfl⟩
  have hlen : bs.length = L := by rw [hbs, hL, built_length]
  have hL3 : L ≤ 300000 := by have := many_bd m; omega
  have HL := Lib.hid hL
  have HS := Lib.hid hbs
  have HN := Lib.hid hlen
  clear hL hbs hlen
  obtain ⟨i, hi0⟩ : ∃ i : Nat, (i : Int) = max 0 t := ⟨(max 0 t).toNat, by omega⟩
  have HI := Lib.hid hi0
  clear hi0
  obtain ⟨M, hM⟩ : ∃ M, M = bk L := ⟨_, rfl⟩
  have hF : RomFit (romOf bs) M := by rw [hM, ← HN.out]; exact romOf_fit bs (by rw [HN.out]; omega)
  have HF := Lib.hid hF
  obtain ⟨hM1, hM2⟩ := hF.bd
  have hroom : (L : Int) ≤ M * 16384 := by rw [hM]; exact (bk_room L (by omega)).1
  have HM : Hid ((L : Int) < M * 16384 → romOf (bs ++ [0]) = romOf bs) := by
    intro h
    exact romOf_more bs (by rw [HN.out]; omega) (by rw [HN.out, ← hM]; exact h)
  clear hM hF
  have hway : ((L : Int) < M * 16384 ∧ (i : Int) < L ∧ (i : Int) < M * 16384) ∨ ((L : Int) < M * 16384 ∧ ¬ (i : Int) < L ∧ (i : Int) < M * 16384) ∨ ((L : Int) < M * 16384 ∧ ¬ (i : Int) < L ∧ ¬ (i : Int) < M * 16384) ∨
      (¬ (L : Int) < M * 16384 ∧ (i : Int) < L ∧ (i : Int) < M * 16384) ∨ (¬ (L : Int) < M * 16384 ∧ ¬ (i : Int) < L ∧ ¬ (i : Int) < M * 16384) := by omega
  have hv0 : (i : Int) < M * 16384 → ¬ (i : Int) < L → Hid ((romOf bs).getD ((i : Int) / 16384 % M * 16384 + (i : Int) % 16384 % 16384).toNat 0 = 0) := by
    intro h1 h2
    rw [place M i h1]
    exact romOf_behind bs i (by rw [HN.out]; omega)
  have hv1 : (i : Int) < M * 16384 → (i : Int) < L → Hid ((romOf bs).getD ((i : Int) / 16384 % M * 16384 + (i : Int) % 16384 % 16384).toNat 0 = bs.getD i 0) := by
    intro h1 h2
    rw [place M i h1]
    exact romOf_in bs i (by rw [HN.out]; omega)
  have hv2 : (i : Int) < M * 16384 → (i : Int) < L → Hid ((romOf bs).getD (((i : Int) / 16384 + M) % M * 16384 + (i : Int) % 16384).toNat 0 = bs.getD i 0) := by
    intro h1 h2
    rw [place_round M i h1]
    exact romOf_in bs i (by rw [HN.out]; omega)
  have HV0 := Lib.hid hv0
  have HV1 := Lib.hid hv1
  have HV2 := Lib.hid hv2
  clear hv0 hv1 hv2
  rcases hway with ⟨y1, y2, y3⟩ | ⟨y1, y2, y3⟩ | ⟨y1, y2, y3⟩ | ⟨y1, y2, y3⟩ | ⟨y1, y2, y3⟩
  all_goals
    go_enter Try.func6, Try.ntmps6
    go_wp2_with (first
      | (go_at_call 7; refine (alive_any _).mono ?_; rintro e w1 ⟨rfl, hb1⟩; have c0 : w1.cell? ⟨w.heap.size, 0, none⟩ = some (.slice a n cap) := (H0.out.next hb1).at_ 0; have c1 : w1.cell? ⟨w.heap.size, 1, none⟩ = some (.int .i64 m) := (H0.out.next hb1).at_ 1; have c2 : w1.cell? ⟨w.heap.size, 2, none⟩ = some (.int .i64 p) := (H0.out.next hb1).at_ 2; have c3 : w1.cell? ⟨w.heap.size, 3, none⟩ = some (.int .u8 x) := (H0.out.next hb1).at_ 3)
      | (go_at_call 11; refine (build_open a n cap zs bs m p x L HL.out HS.out _ ((HB.out.next ((Below.refl _ _).alloc (Nat.le_refl _) _)).next hb1) hn).mono ?_; rintro e w2 ⟨g, rfl, hg, hb2, hw2⟩; have HW2 := Lib.hid hw2; clear hw2 c0 c1 c2 c3)
      | (go_at_call_of 8 (Value.slice (some ⟨g, 0, none⟩) L L); refine (new_open _ L L bs _ (by have h := Bytes.ofWhole HW2.out; rwa [HN.out] at h) (by omega) (by omega)).mono ?_; rintro e w3 ⟨g1, rfl, hg1, hb3, hr3⟩)
      | (at_builtin; refine wpList_append_own _ rfl (.tmp 19) (.tmp 20) 25 rfl w3.heap.size 5 i0 (.int .u8 0) 1 1 Try.underlying25 hi hz0 hz1 hz2 rfl (by decide) _ 0 (u8s []) rfl (own_empty w3) ⟨g, 0, none⟩ L L (u8s bs) rfl (by rw [u8s_length, HN.out, Nat.mul_one]) (whole_news ((HW2.out.next hb3).beside _)) (u8s_one _) (by unfold maxLen; omega) (by omega) (by simp) ?_; intro v1 w4 ho1 hgr1 _; have HO1 := Lib.hid ho1; have HG1 := Lib.hid hgr1; clear ho1 hgr1)
      | (at_builtin; refine wpList_append_own _ rfl (.tmp 21) (.tmp 22) 25 rfl w3.heap.size 5 i0 (.int .u8 0) 1 1 Try.underlying25 hi hz0 hz1 hz2 rfl (by decide) v1 (0 + L) (u8s [] ++ u8s bs) rfl (HO1.out.alloc _) ⟨w4.heap.size, 0, none⟩ 1 1 (u8s [0]) rfl rfl (whole_news (Whole.fresh w4 5 (u8s [0]))) (u8s_one _) (by unfold maxLen; omega) (by omega) (by have := below_size HG1.out; simp at this ⊢; omega) ?_; intro v2 w5 ho2 hgr2 _; obtain ⟨A2, cc, rfl, hcc, hB2⟩ := own_back ho2; have HG2 := Lib.hid hgr2; have HB2 := Lib.hid hB2; clear ho2 hgr2 hB2)
      | (go_at_call 8; refine (new_open A2 (L + 1) cc (bs ++ [0]) _ HB2.out (by omega) hcc).mono ?_; rintro e w6 ⟨g2, rfl, hg2, hb6, hr6⟩; have G6 : GrowsAt w w6 g g1 g2 bs := GrowsAt.made hb1 hb2 HW2.out hg1 hb3 hr3 HO1.out HG1.out HG2.out hg2 hb6 hr6; clear hg2 hb6 hr6 HB2 hcc HG2 HO1 HG1 hb3 hr3 hg1)
      | (go_at_call_of 10 (Value.pointer (some ⟨g1, 0, none⟩)); refine (banks_any g1 _ M HF.out _ (GrowsAt.rom1 (by assumption))).mono ?_; rintro e w' ⟨rfl, rfl⟩)
      | (go_at_call 10; refine (banks_any g2 _ M (by rw [HM.out y1]; exact HF.out) _ (GrowsAt.rom2 (by assumption))).mono ?_; rintro e w' ⟨rfl, rfl⟩)
      | (go_at_call_of 15 (Value.pointer (some ⟨g2, 0, none⟩)); refine (sum_is g2 _ _ (HM.out y1) M (by rw [HM.out y1]; exact HF.out) _ (GrowsAt.rom2 G6)).mono ?_; rintro e w7 ⟨rfl, hr7⟩; have G7 := GrowsAt.sum2 G6 hr7; clear hr7)
      | (go_at_call 15; refine (sum_is g1 _ _ rfl M HF.out _ (GrowsAt.rom1 G7)).mono ?_; rintro e w8 ⟨rfl, hr8⟩; have G8 := GrowsAt.sum1 G7 hr8; clear hr8 G7 G6)
      | (with_reducible refine max_at rfl (.const (.int .i64 0)) (.tmp 45) _ rfl .i64 .i64 0 t rfl rfl ↑i HI.out ?_)
      | (go_at_call 9; refine (at_is g1 _ M HF.out _ (GrowsAt.rom1 (by assumption)) _ _ 0 (HV0.out y3 y2)).mono ?_; rintro e w' ⟨rfl, rfl⟩))
  · have c8 := cell_of G8 i (by rw [HN.out]; exact y2)
    have RD := RomAt.drawnN (GrowsAt.rom1 G8)
    have BW := Lib.hid (GrowsAt.below G8)
    clear G8
    have q1 : (i : Int).tdiv 16384 = (i : Int) / 16384 := Int.tdiv_eq_ediv_of_nonneg (by omega)
    have q2 : (i : Int).tmod 16384 = (i : Int) % 16384 := Int.tmod_eq_emod_of_nonneg (by omega)
    have q3 : IntKind.i64.wrap ((i : Int) / 16384 + M) = (i : Int) / 16384 + M := IntWalk.i64_in _ (by omega)
    have q0 : IntKind.i64.wrap ((i : Int) / 16384) = (i : Int) / 16384 := IntWalk.i64_in _ (by omega)
    have q4 : (0 : Int) ≤ (i : Int) := by omega
    go_quiet ((first | (go_at_call 10; exact Calls.quiet_of_same (banks_same g1 _ M HF.out _ (RD _).out)) | (go_at_call_of 9 (Value.int IntKind.i64 (i : Int)); exact Calls.quiet_of_same (at_same g1 _ M HF.out _ (RD _).out _ _ _ (HV2.out y3 y2))) | (go_at_call 9; exact Calls.quiet_of_same (at_same g1 _ M HF.out _ (RD _).out _ _ _ (HV1.out y3 y2)))))
    go_wp2
    go_ret
    exact ⟨rfl, BW.out.os, BW.out.tape, BW.out.output, BW.out.size, BW.out.block⟩
  · go_ret
    exact ⟨rfl, GrowsAt.below (by assumption)⟩
  · go_ret
    exact ⟨rfl, GrowsAt.below (by assumption)⟩
  · have c8 := cell_of G6 i (by rw [HN.out]; exact y2)
    have RD := RomAt.drawnN (GrowsAt.rom1 G6)
    have BW := Lib.hid (GrowsAt.below G6)
    clear G6
    have q1 : (i : Int).tdiv 16384 = (i : Int) / 16384 := Int.tdiv_eq_ediv_of_nonneg (by omega)
    have q2 : (i : Int).tmod 16384 = (i : Int) % 16384 := Int.tmod_eq_emod_of_nonneg (by omega)
    have q3 : IntKind.i64.wrap ((i : Int) / 16384 + M) = (i : Int) / 16384 + M := IntWalk.i64_in _ (by omega)
    have q0 : IntKind.i64.wrap ((i : Int) / 16384) = (i : Int) / 16384 := IntWalk.i64_in _ (by omega)
    have q4 : (0 : Int) ≤ (i : Int) := by omega
    go_quiet ((first | (go_at_call 10; exact Calls.quiet_of_same (banks_same g1 _ M HF.out _ (RD _).out)) | (go_at_call_of 9 (Value.int IntKind.i64 (i : Int)); exact Calls.quiet_of_same (at_same g1 _ M HF.out _ (RD _).out _ _ _ (HV2.out y3 y2))) | (go_at_call 9; exact Calls.quiet_of_same (at_same g1 _ M HF.out _ (RD _).out _ _ _ (HV1.out y3 y2)))))
    go_wp2
    go_ret
    exact ⟨rfl, BW.out.os, BW.out.tape, BW.out.output, BW.out.size, BW.out.block⟩
  · go_ret
    exact ⟨rfl, GrowsAt.below (by assumption)⟩

end Go.Proofs.Ytdgejcbnjelgkaa
