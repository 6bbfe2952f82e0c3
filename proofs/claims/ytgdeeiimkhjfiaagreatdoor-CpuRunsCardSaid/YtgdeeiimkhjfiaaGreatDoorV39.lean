import Derived.Test.YtgdeeiimkhjfiaaGreatDoorV38
set_option maxRecDepth 100000
set_option maxHeartbeats 6400000
namespace Go.Proofs.YtgdeeiimkhjfiaaGreatDoor
open Go.RowKit
section
variable {W0 w : World} {x b tq n c : Nat} {s : Cs} {ix : Bool} {pg : Int} {l : Zj}
abbrev Kh (A : Tx) (s : Cs) (tq : Nat) (ix : Bool) (pg : Int) (v : Nat) (s1 : Cs) : Prop :=
 ∀ (W0 w : World) (x b n : Nat) (l : Zj), Hid (Ex W0 w x b s tq ix pg l (n + 1)) → Calls Tryz.prog 88 #[.pointer (some ⟨x, 0, none⟩), .string ⟨A.toArray⟩] w fun e w' => e = .returned (.int .u8 (v : Int)) ∧ Hid (Ex W0 w' x b s1 tq ix pg l n)
abbrev Je (A : Tx) (u : Nat) (s : Cs) (tq : Nat) (ix : Bool) (pg : Int) (s1 : Cs) : Prop :=
 ∀ (W0 w : World) (x b n : Nat) (l : Zj), Hid (Ex W0 w x b s tq ix pg l (n + 1)) → Calls Tryz.prog 87 #[.pointer (some ⟨x, 0, none⟩), .string ⟨A.toArray⟩, .int .u8 (u : Int)] w fun e w' => e = .returned (.tuple #[]) ∧ Hid (Ex W0 w' x b s1 tq ix pg l n)
abbrev zq (A : Tx) (ix : Bool) (p q r c : Int) : Prop :=
 ∀ (W0 w : World) (x b n tq : Nat) (s : Cs) (pg : Int) (l : Zj), Hid (Ex W0 w x b s tq ix pg l n) → Calls Tryz.prog 89 #[.pointer (some ⟨x, 0, none⟩), .string ⟨A.toArray⟩, .int .i64 p, .int .i64 q, .int .i64 r] w fun e w' => e = .returned (.int .i64 c) ∧ Hid (Ex W0 w' x b s tq ix pg l n)
abbrev VJ (A : Tx) (M : Bool) : Prop := ∀ w : World, Calls Tryz.prog 90 #[.string ⟨A.toArray⟩] w fun e w' => e = .returned (.bool M) ∧ w = w'
theorem zr (t w1 : Tx) (hl : t.length ≤ 100) (hl1 : w1.length ≤ 100) (A : Tx) (dg : Tx) (k : Nat) (hk8 : k < 8) (hdl : 0 < dg.length) (hdg : ((dg.getD 0 0).toNat : Int) = 48 + (k : Int)) (hL : Zl t 32 = [[66, 73, 84], w1]) (hq : Zl w1 44 = [dg, A]) (v : Nat) (v8 : v < 256) (s1 : Cs) (DB : Kh A s tq ix pg v s1) (M : Bool) (DM : VJ A M) (c : Int) (DY : zq A ix 8 12 16 c) (z fr f y : Nat) (hz : Hid (s1.r.wz = z)) (z8 : z < 65536) (hfr : Hid (cond M (z / 256) v = fr)) (hf : Hid (s1.r.f = f)) (f8 : f < 256) (hy : Hid (Jj k v f fr = y)) (H : Hid (Ex W0 w x b s tq ix pg l (n + 1))) :
  CX 53 #[.pointer (some ⟨x, 0, none⟩), .string ⟨t.toArray⟩, .string ⟨#[66, 73, 84]⟩, .int .i64 pg] w (.int .i64 c) fun w' => Hid (Ex W0 w' x b (s1.setF y) tq ix pg l n) := by
 have m32 : ((32 : UInt8).toNat : Int) = 32 := rfl
 have l32 : t.length ≤ 2000 := by omega
 have m44 : ((44 : UInt8).toNat : Int) = 44 := rfl
 have l44 : w1.length ≤ 2000 := by omega
 have HDL : Hid (0 < dg.length) := hdl
 obtain ⟨D, hD⟩ : ∃ D : Int, ((dg.getD 0 0).toNat : Int) = D := ⟨_, rfl⟩
 have HDG : Hid (((dg.getD 0 0).toNat : Int) = D) := hD
 have D0 : 48 ≤ D := by omega
 have D1 : D < 56 := by omega
 have D2 : D - 48 = (k : Int) := by omega
 clear hD
 clear hdl hdg
 have fr8 : fr < 256 := by rw [← hfr.out]; cases M <;> simp <;> omega
 have y8 : y < 256 := by rw [← hy.out]; exact Zm _ _ _ _ _ _ _ _
 have hk2 : (k : Int) % 8 = (k : Int) := by omega
 have ez := hz.out
 have ef := hf.out
 have HDB := Zb DB
 have HDM := Zb DM
 have HDY := Zb DY
 clear DB DM DY
 cases M
 ·obtain rfl : v = fr := hfr.out
  go_enter Tryz.func53, Tryz.ntmps53
  go_upto_region 2 with (first | (go_at_call 44; (with_reducible refine (ZJ t 32 32 m32 l32 _).mono ?_); rintro e w' ⟨g1, cap1, cur1, rfl, -, hg, hW, hc, hb⟩; rw [hL] at hc ⊢; have H' := Zb (H.out.plus hb hg hW); have HC1 := Zb hc; have d1 : cur1[1]? = some (.string ⟨w1.toArray⟩) := HC1.out 1 (show (1 : Nat) < 2 by decide); clear H hb hg hW hc; have H := H'; clear H') | refine a51 ?_ | (go_at_call 44; (with_reducible refine (ZJ w1 44 44 m44 l44 _).mono ?_); rintro e w' ⟨g3, cap3, cur3, rfl, hcap, hg, hW, hc, hb⟩; rw [hq] at hc hcap ⊢; have hcap2 : (cap3 = 1) = False := (by rw [eq_iff_iff, iff_false]; simp only [List.length_cons, List.length_nil] at hcap; omega); clear hcap; have H' := Zb (H.out.plus hb hg hW); have HC3 := Zb hc; clear H hb hg hW hc; have H := H'; clear H') | fail)
  have dD : cur3[0]? = some (.string ⟨dg.toArray⟩) := HC3.out 0 (show (0 : Nat) < 2 by decide)
  have dA : cur3[1]? = some (.string ⟨A.toArray⟩) := HC3.out 1 (show (1 : Nat) < 2 by decide)
  go_wp2_with (first | refine b18 ?_ | (refine a2 ?_; clear H; intro w' H) | (refine Kg (m := dg) (k := 0) tStr rfl rfl rfl rfl HDL.out HDG.out rfl ?_) | (go_at_call 88; (with_reducible refine (HDB.out _ _ _ _ _ _ H).mono ?_); clear H; rintro e w' ⟨rfl, H⟩) | (go_at_call 90; (with_reducible refine (HDM.out _).mono ?_); rintro e w' ⟨rfl, rfl⟩) | (go_at_call 105; (with_reducible refine (Zdz (k : Int) k v f v y hk2 v8 f8 fr8 hy _).mono ?_); rintro e w' ⟨rfl, hb⟩; replace H := Zb (H.out.call hb); clear hb) | (go_at_call 89; (with_reducible refine (HDY.out _ _ _ _ _ _ _ _ _ H).mono ?_); clear H; rintro e w' ⟨rfl, H⟩) | fail)
  go_ret
  exact ⟨rfl, Zb H.out.drop2.drop2⟩
 ·have z9 : (z : Int).tdiv 256 = (fr : Int) := by have h : z / 256 = fr := hfr.out; rw [Int.tdiv_eq_ediv_of_nonneg (by omega)]; omega
  have z10 : IntKind.u16.wrap (fr : Int) = (fr : Int) := by show (fr : Int) % 65536 = _; omega
  have z11 : IntKind.u8.wrap (fr : Int) = (fr : Int) := by rw [IntKind.wrap_u8]; omega
  go_enter Tryz.func53, Tryz.ntmps53
  go_upto_region 2 with (first | (go_at_call 44; (with_reducible refine (ZJ t 32 32 m32 l32 _).mono ?_); rintro e w' ⟨g1, cap1, cur1, rfl, -, hg, hW, hc, hb⟩; rw [hL] at hc ⊢; have H' := Zb (H.out.plus hb hg hW); have HC1 := Zb hc; have d1 : cur1[1]? = some (.string ⟨w1.toArray⟩) := HC1.out 1 (show (1 : Nat) < 2 by decide); clear H hb hg hW hc; have H := H'; clear H') | refine a51 ?_ | (go_at_call 44; (with_reducible refine (ZJ w1 44 44 m44 l44 _).mono ?_); rintro e w' ⟨g3, cap3, cur3, rfl, hcap, hg, hW, hc, hb⟩; rw [hq] at hc hcap ⊢; have hcap2 : (cap3 = 1) = False := (by rw [eq_iff_iff, iff_false]; simp only [List.length_cons, List.length_nil] at hcap; omega); clear hcap; have H' := Zb (H.out.plus hb hg hW); have HC3 := Zb hc; clear H hb hg hW hc; have H := H'; clear H') | fail)
  have dD : cur3[0]? = some (.string ⟨dg.toArray⟩) := HC3.out 0 (show (0 : Nat) < 2 by decide)
  have dA : cur3[1]? = some (.string ⟨A.toArray⟩) := HC3.out 1 (show (1 : Nat) < 2 by decide)
  go_wp2_with (first | refine b18 ?_ | (refine a2 ?_; clear H; intro w' H) | (refine Kg (m := dg) (k := 0) tStr rfl rfl rfl rfl HDL.out HDG.out rfl ?_) | (go_at_call 88; (with_reducible refine (HDB.out _ _ _ _ _ _ H).mono ?_); clear H; rintro e w' ⟨rfl, H⟩) | (go_at_call 90; (with_reducible refine (HDM.out _).mono ?_); rintro e w' ⟨rfl, rfl⟩) | (go_at_call 105; (with_reducible refine (Zdz (k : Int) k v f fr y hk2 v8 f8 fr8 hy _).mono ?_); rintro e w' ⟨rfl, hb⟩; replace H := Zb (H.out.call hb); clear hb) | (go_at_call 89; (with_reducible refine (HDY.out _ _ _ _ _ _ _ _ _ H).mono ?_); clear H; rintro e w' ⟨rfl, H⟩) | fail)
  go_ret
  exact ⟨rfl, Zb H.out.drop2.drop2⟩
def ro8 (k : Nat) : Tx := ([[82, 76, 67], [82, 82, 67], [82, 76], [82, 82], [83, 76, 65], [83, 82, 65], [83, 76, 76], [83, 82, 76]] : List Tx).getD k []
def strsR : List Value := (List.range 8).map fun k => .string ⟨(ro8 k).toArray⟩
theorem ZgO (w : World) : (Instr.buildSlice 80 8 #[(0, .string ⟨#[82, 76, 67]⟩), (1, .string ⟨#[82, 82, 67]⟩), (2, .string ⟨#[82, 76]⟩), (3, .string ⟨#[82, 82]⟩), (4, .string ⟨#[83, 76, 65]⟩), (5, .string ⟨#[83, 82, 65]⟩), (6, .string ⟨#[83, 76, 76]⟩), (7, .string ⟨#[83, 82, 76]⟩)]).run Tryz.prog w = .ok (.slice (some ⟨w.heap.size, 0, none⟩) 8 8) (w.alloc (.cells strsR.toArray 9)) := by kernel_rfl
theorem ro8_cell : ∀ k, k < 8 → strsR[k]? = some (.string ⟨(ro8 k).toArray⟩)
 | 0, _ => rfl | 1, _ => rfl | 2, _ => rfl | 3, _ => rfl | 4, _ => rfl | 5, _ => rfl | 6, _ => rfl | 7, _ => rfl
 | k + 8, h => absurd h (by omega)
theorem ro8_apart : ∀ i, i < 8 → ∀ j, j < 8 → (ro8 i == ro8 j) = true → i = j := by decide
theorem UX (t w1 : Tx) (hl : t.length ≤ 100) (hl1 : w1.length ≤ 100) (hd : Tx) (on : Bool) (hon : hd = cond on [83, 69, 84] [82, 69, 83]) (T : List Tx) (hT1 : 1 ≤ T.length) (hT2 : T.length ≤ 3) (A : Tx) (hA : sg T 0 = A) (dg : Tx) (k : Nat) (hk8 : k < 8) (hdl : 0 < dg.length) (hdg : ((dg.getD 0 0).toNat : Int) = 48 + (k : Int)) (hL : Zl t 32 = [hd, w1]) (hq : Zl w1 44 = dg :: T) (v : Nat) (v8 : v < 256) (s1 : Cs) (DB : Kh A s tq ix pg v s1) (M : Bool) (DM : VJ A M) (c : Int) (DY : zq A ix 8 15 19 c) (z : Nat) (hz : Hid (s1.r.wz = z)) (z8 : z < 65536) (u : Nat) (hu : Hid (KU k v on = u)) (st : Nat → Cs) (hs0 : Hid (st 0 = s1)) (DP : ∀ j, j < T.length → Je (sg T j) u (st j) tq ix pg (st (j + 1)))  (H : Hid (Ex W0 w x b s tq ix pg l (n + T.length + 1))) :
  CX 53 #[.pointer (some ⟨x, 0, none⟩), .string ⟨t.toArray⟩, .string ⟨hd.toArray⟩, .int .i64 pg] w (.int .i64 c) fun w' => Hid (Ex W0 w' x b (st T.length) tq ix pg l n) := by
 have m32 : ((32 : UInt8).toNat : Int) = 32 := rfl
 have l32 : t.length ≤ 2000 := by omega
 have m44 : ((44 : UInt8).toNat : Int) = 44 := rfl
 have l44 : w1.length ≤ 2000 := by omega
 have ez := hz.out
 have HDB := Zb DB
 have HDM := Zb DM
 have HDY := Zb DY
 have HDP := Zb DP
 have HA := Zb hA
 have HT1 := Zb hT1
 clear DB DM DY DP hA
 have HDL : Hid (0 < dg.length) := hdl
 obtain ⟨D, hD⟩ : ∃ D : Int, ((dg.getD 0 0).toNat : Int) = D := ⟨_, rfl⟩
 have HDG : Hid (((dg.getD 0 0).toNat : Int) = D) := hD
 have D0 : 48 ≤ D := by omega
 have D1 : D < 56 := by omega
 have D2 : D - 48 = (k : Int) := by omega
 clear hD
 clear hdl hdg
 have hk2 : (k : Int) % 8 = (k : Int) := by omega
 have HNE : Hid (∀ j, j < 8 → (ro8 j == hd) = false) := by
  subst hon
  cases on <;> (show ∀ j, j < 8 → _) <;> decide
 cases on
 all_goals
  simp only [cond_true, cond_false] at hon
  subst hon
  cases M
  all_goals
   go_enter Tryz.func53, Tryz.ntmps53
   go_upto_region 2 with (first | (go_at_call 44; (with_reducible refine (ZJ t 32 32 m32 l32 _).mono ?_); rintro e w' ⟨g1, cap1, cur1, rfl, -, hg, hW, hc, hb⟩; rw [hL] at hc ⊢; have H' := Zb (H.out.plus hb hg hW); have HC1 := Zb hc; have d1 : cur1[1]? = some (.string ⟨w1.toArray⟩) := HC1.out 1 (show (1 : Nat) < 2 by decide); clear H hb hg hW hc; have H := H'; clear H') | refine a51 ?_ | (go_at_call 44; (with_reducible refine (ZJ w1 44 44 m44 l44 _).mono ?_); rintro e w' ⟨g3, cap3, cur3, rfl, hcap, hg, hW, hc, hb⟩; rw [hq] at hc hcap ⊢; have hcap2 : (cap3 = 1) = False := (by rw [eq_iff_iff, iff_false]; simp only [List.length_cons] at hcap; omega); clear hcap; have H' := Zb (H.out.plus hb hg hW); have HC3 := Zb hc; clear H hb hg hW hc; have H := H'; clear H') | fail)
   have dD : cur3[0]? = some (.string ⟨dg.toArray⟩) := HC3.out 0 (show 0 < (dg :: T).length by simp)
   have dA : cur3[1]? = some (.string ⟨A.toArray⟩) := by
    rw [← HA.out]
    exact HC3.out 1 (by have := HT1.out; show 1 < (dg :: T).length; rw [List.length_cons]; omega)
   go_upto_region 15 with (first | refine b19 ?_ | (go_at_call 88; (with_reducible refine (HDB.out _ _ _ _ _ _ H).mono ?_); clear H; rintro e w' ⟨rfl, H⟩) | (go_at_call 90; (with_reducible refine (HDM.out _).mono ?_); rintro e w' ⟨rfl, rfl⟩) | (refine Kg (m := dg) (k := 0) tStr rfl rfl rfl rfl HDL.out HDG.out rfl ?_) | (go_at_call 106; (with_reducible refine (ZdA (k : Int) k v u _ hk2 v8 hu _).mono ?_); rintro e w' ⟨rfl, rfl⟩) | ((with_reducible apply ZdD (cs := strsR) (e := 9) (k := 8) H); exact rfl; exact ZgO; (focus (go_simp; done)); exact rfl; clear H; intro w' g4 H) | fail)
   go_loopw [87, 13] (fun i y wr => ∃ j : Nat, j ≤ 8 ∧ i = .int .i64 (j : Int) ∧ y = .int .u8 (u : Int) ∧ Hid (Ex W0 wr x b s1 tq ix pg ((g4, 9, strsR) :: (g3, 9, cur3) :: (g1, 9, cur1) :: l) (n + T.length))) (fun i _ _ => 8 - (intOf i).toNat)
   case atStart => exact ⟨0, by omega, rfl, rfl, H⟩
   case round =>
    clear H
    obtain ⟨j, hj, rfl, rfl, H⟩ := hrel
    by_cases hlt : j < 8
    ·obtain ⟨t8, ht8⟩ : ∃ t, ro8 j = t := ⟨_, rfl⟩
     have e8 := Zb (ro8_cell j hlt)
     have hq := HNE.out j hlt
     rw [ht8] at e8 hq
     have hlt' : (j : Int) < 8 := by omega
     clear ht8
     exact k50
    ·obtain rfl : j = 8 := by omega
     rw [show ((8 : Nat) : Int) = 8 from rfl]
     rw [show s1 = st 0 from hs0.out.symm] at H
     go_upto_region 23 with (first | refine a1 ?_ | fail)
     go_loopw [115] (fun i wr => ∃ j : Nat, j ≤ T.length ∧ i = .int .i64 (j : Int) ∧ Hid (Ex W0 wr x b (st j) tq ix pg ((g4, 9, strsR) :: (g3, 9, cur3) :: (g1, 9, cur1) :: l) (n + (T.length - j)))) (fun i _ => T.length - (intOf i).toNat)
     case atStart => exact ⟨0, by omega, rfl, H⟩
     case round =>
      clear H
      obtain ⟨j, hj, rfl, H⟩ := hrel
      by_cases hlt : j < T.length
      ·have hlt' : (j : Int) < (T.length : Int) := by omega
       obtain ⟨y', hy'⟩ : ∃ y, sg T j = y := ⟨_, rfl⟩
       have d3 : cur3[1 + j]? = some (.string ⟨y'.toArray⟩) := by
        rw [← hy']
        have h := HC3.out (1 + j) (by rw [List.length_cons]; omega)
        rw [show sg (dg :: T) (1 + j) = sg T j by rw [Nat.add_comm]; rfl] at h
        exact h
       exact k75
      ·obtain rfl : j = T.length := by omega
       exact k29
theorem VK (t w1 : Tx) (hl : t.length ≤ 100) (hl1 : w1.length ≤ 100) (hd : Tx) (k : Nat) (hk8 : k < 8) (hhd : ro8 k = hd) (hB : (hd == [66, 73, 84]) = false) (hR : (hd == [82, 69, 83]) = false) (hS : (hd == [83, 69, 84]) = false) (T : List Tx) (hT1 : 1 ≤ T.length) (hT2 : T.length ≤ 3) (A : Tx) (hA : sg T 0 = A) (hL : Zl t 32 = [hd, w1]) (hq : Zl w1 44 = T) (v : Nat) (v8 : v < 256) (s1 : Cs) (DB : Kh A s tq ix pg v s1) (M : Bool) (DM : VJ A M) (c : Int) (DY : zq A ix 8 15 19 c) (z : Nat) (hz : Hid (s1.r.wz = z)) (z8 : z < 65536) (f c0 u y : Nat) (hf : Hid (s1.r.f = f)) (f8 : f < 256) (hc0 : Hid (f % 2 = c0)) (hu : Hid (tV k v c0 = u)) (hy : Hid (Yl k v c0 = y)) (s2 : Cs) (hs2 : Hid (s1.setF y = s2)) (st : Nat → Cs) (hs0 : Hid (st 0 = s2)) (DP : ∀ j, j < T.length → Je (sg T j) u (st j) tq ix pg (st (j + 1)))  (H : Hid (Ex W0 w x b s tq ix pg l (n + T.length + 1))) :
  CX 53 #[.pointer (some ⟨x, 0, none⟩), .string ⟨t.toArray⟩, .string ⟨hd.toArray⟩, .int .i64 pg] w (.int .i64 c) fun w' => Hid (Ex W0 w' x b (st T.length) tq ix pg l n) := by
 have m32 : ((32 : UInt8).toNat : Int) = 32 := rfl
 have l32 : t.length ≤ 2000 := by omega
 have m44 : ((44 : UInt8).toNat : Int) = 44 := rfl
 have l44 : w1.length ≤ 2000 := by omega
 have ez := hz.out
 have HDB := Zb DB
 have HDM := Zb DM
 have HDY := Zb DY
 have HDP := Zb DP
 have HA := Zb hA
 have HT1 := Zb hT1
 clear DB DM DY DP hA
 have hk2 : (k : Int) % 8 = (k : Int) := by omega
 obtain ⟨ux, hu0⟩ : ∃ x, Hid (KU 0 v false = x) := ⟨_, rfl⟩
 have y8 : y < 256 := by rw [← hy.out]; exact Uw _ _ _
 have ef := hf.out
 have HHD := Zb hhd
 clear hhd
 cases M
 all_goals
  go_enter Tryz.func53, Tryz.ntmps53
  go_upto_region 2 with (first | (go_at_call 44; (with_reducible refine (ZJ t 32 32 m32 l32 _).mono ?_); rintro e w' ⟨g1, cap1, cur1, rfl, -, hg, hW, hc, hb⟩; rw [hL] at hc ⊢; have H' := Zb (H.out.plus hb hg hW); have HC1 := Zb hc; have d1 : cur1[1]? = some (.string ⟨w1.toArray⟩) := HC1.out 1 (show (1 : Nat) < 2 by decide); clear H hb hg hW hc; have H := H'; clear H') | refine a51 ?_ | (go_at_call 44; (with_reducible refine (ZJ w1 44 44 m44 l44 _).mono ?_); rintro e w' ⟨g3, cap3, cur3, rfl, hcap, hg, hW, hc, hb⟩; rw [hq] at hc hcap ⊢; clear hcap; have H' := Zb (H.out.plus hb hg hW); have HC3 := Zb hc; clear H hb hg hW hc; have H := H'; clear H') | fail)
  have dA : cur3[0]? = some (.string ⟨A.toArray⟩) := by
   rw [← HA.out]
   exact HC3.out 0 (by have := HT1.out; omega)
  go_upto_region 15 with (first | refine b20 ?_ | (go_at_call 88; (with_reducible refine (HDB.out _ _ _ _ _ _ H).mono ?_); clear H; rintro e w' ⟨rfl, H⟩) | (go_at_call 90; (with_reducible refine (HDM.out _).mono ?_); rintro e w' ⟨rfl, rfl⟩) | (go_at_call 106; (with_reducible refine (ZdA 0 0 v ux false rfl v8 hu0 _).mono ?_); rintro e w' ⟨rfl, rfl⟩) | ((with_reducible apply ZdD (cs := strsR) (e := 9) (k := 8) H); exact rfl; exact ZgO; (focus (go_simp; done)); exact rfl; clear H; intro w' g4 H) | fail)
  go_loopw [87, 13] (fun i y wr => ∃ j : Nat, j ≤ k ∧ i = .int .i64 (j : Int) ∧ y = .int .u8 (ux : Int) ∧ Hid (Ex W0 wr x b s1 tq ix pg ((g4, 9, strsR) :: (g3, 9, cur3) :: (g1, 9, cur1) :: l) (n + T.length))) (fun i _ _ => 8 - (intOf i).toNat)
  case atStart => exact ⟨0, by omega, rfl, rfl, H⟩
  case round =>
   clear H
   obtain ⟨j, hj, rfl, rfl, H⟩ := hrel
   have hlt : j < 8 := by omega
   obtain ⟨t8, ht8⟩ : ∃ t, ro8 j = t := ⟨_, rfl⟩
   have e8 := Zb (ro8_cell j hlt)
   rw [ht8] at e8
   have H8 := Zb ht8
   have hlt' : (j : Int) < 8 := by omega
   clear ht8
   cases hq' : (t8 == hd)
   ·have hjk : j ≠ k := by
     rintro rfl
     have h1 : t8 = hd := H8.out.symm.trans HHD.out
     rw [h1] at hq'
     simp at hq'
    exact k50
   ·obtain rfl : j = k := ro8_apart j hlt k hk8 (by rw [H8.out, HHD.out]; exact hq')
    go_upto_region 22 with (first | refine b21 ?_ | (refine a2 ?_; clear H; intro w' H) | (go_at_call 107; (with_reducible refine (ZiV (j : Int) j v f c0 u y hk2 v8 f8 hc0 hu hy _).mono ?_); rintro e w' ⟨rfl, hb⟩; replace H := Zb (H.out.call hb); clear hb) | fail)
    rw [hs2.out] at H
    rw [show s2 = st 0 from hs0.out.symm] at H
    go_upto_region 23 with (first | refine a1 ?_ | fail)
    go_loopw [115] (fun i wr => ∃ j : Nat, j ≤ T.length ∧ i = .int .i64 (j : Int) ∧ Hid (Ex W0 wr x b (st j) tq ix pg ((g4, 9, strsR) :: (g3, 9, cur3) :: (g1, 9, cur1) :: l) (n + (T.length - j)))) (fun i _ => T.length - (intOf i).toNat)
    case atStart => exact ⟨0, by omega, rfl, H⟩
    case round =>
     clear H
     obtain ⟨j, hj, rfl, H⟩ := hrel
     by_cases hlt : j < T.length
     ·have hlt' : (j : Int) < (T.length : Int) := by omega
      obtain ⟨y', hy'⟩ : ∃ y, sg T j = y := ⟨_, rfl⟩
      have d3 : cur3[j]? = some (.string ⟨y'.toArray⟩) := by
       rw [← hy']
       exact HC3.out j hlt
      exact k75
     ·obtain rfl : j = T.length := by omega
      exact k29
theorem ZdG (t w1 : Tx) (hl : t.length ≤ 100) (page : Int) (hL : Zl t 32 = [[80, 85, 83, 72], w1]) (hl1 : w1.length ≤ 100) (q : List Tx) (hq : Zl w1 44 = q) (hq1 : 1 ≤ q.length) (hq3 : q.length ≤ 3) (A B : Tx) (hA : sg q 0 = A) (hB : sg q 1 = B) {g : Rg → Nat} {st : Rg → Nat → Rg} (hN : Nm A g st 65536) (z : Nat) (hz : Hid (g s.r = z)) (s' : Cs) (hs : Hid (s.push z = s')) (H : Hid (Ex W0 w x b s tq ix pg l (n + 2))) :
  CX 23 #[.pointer (some ⟨x, 0, none⟩), .string ⟨t.toArray⟩, .int .i64 page] w (.int .i64 11) fun w' => Hid (Ex W0 w' x b s' tq ix page l n) := by
 have m32 : ((32 : UInt8).toNat : Int) = 32 := rfl
 have l32 : t.length ≤ 2000 := by omega
 have HA := Zb hA
 have HB := Zb hB
 have m44 : ((44 : UInt8).toNat : Int) = 44 := rfl
 have l44 : w1.length ≤ 2000 := by omega
 clear hA hB
 have z8 : z < 65536 := by rw [← hz.out]; exact hN.lt _ H.out.fits
 go_enter Tryz.func23, Tryz.ntmps23
 go_upto_region 3 with (first | ((with_reducible apply xpY (s' := s) (pg' := page) H); (refine ⟨rfl, rfl, rfl, jz, ⟨rfl, fun h => h⟩, oneInt.size, rfl, rfl, (by decide), rfl⟩); clear H; intro w' H) | (go_at_call 44; (with_reducible refine (ZJ t 32 32 m32 l32 _).mono ?_); rintro e w' ⟨g1, cap1, cur1, rfl, -, hg, hW, hc, hb⟩; rw [hL] at hc ⊢; have H' := Zb (H.out.plus hb hg hW); have HC1 := Zb hc; clear H hb hg hW hc; have H := H'; clear H') | fail)
 have d0 : cur1[0]? = some (.string ⟨[80, 85, 83, 72].toArray⟩) := HC1.out 0 (show (0 : Nat) < 2 by decide)
 have d1 : cur1[1]? = some (.string ⟨w1.toArray⟩) := HC1.out 1 (show (1 : Nat) < 2 by decide)
 go_upto_region 6 with (first | (refine a40 ?_; clear H; intro w' g2 H) | refine a61 ?_ | (go_at_call 44; (with_reducible refine (ZJ w1 44 44 m44 l44 _).mono ?_); rintro e w' ⟨g3, cap3, cur3, rfl, -, hg, hW, hc, hb⟩; rw [hq] at hc ⊢; have H' := Zb (H.out.plus2 hb hg hW); have HC3 := Zb hc; clear H hb hg hW hc; have H := H'; clear H') | fail)
 go_loopw [28] (fun i wr => ∃ j : Nat, j ≤ q.length ∧ i = .int .i64 (j : Int) ∧ Hid (Ex W0 wr x b s tq ix page ((g2, 9, [.string ⟨(pp q j 0).toArray⟩, .string ⟨(pp q j 1).toArray⟩]) :: (g3, 9, cur3) :: (g1, 9, cur1) :: l) (n + 2))) (fun i _ => q.length - (intOf i).toNat)
 case atStart => exact ⟨0, by omega, rfl, H⟩
 case round =>
  clear H
  obtain ⟨j, hj, rfl, H⟩ := hrel
  by_cases hlt : j < q.length
  ·have hlt' : (j : Int) < (q.length : Int) := by omega
   exact k10
  ·obtain rfl : j = q.length := by omega
   rw [Ue q 0, Ue q 1, HA.out, HB.out] at H
   go_upto_region 11 with (first | fail)
   obtain ⟨HF, HG, X, HX, HM⟩ := H.out.hid
   simp only [List.cons_append] at HM
   (refine Zo HM (by kernel_rfl) (by kernel_rfl) ?_; (try simp only [Act.put, Ze, Zc, Zd]); repeat ((fail_if_success (with_reducible refine wpQuiet_nil ?_)); first | go_big_quiet_skip | (go_big_quiet_want; first | (refine a17 ?_; go_big_quiet_op; go_big_quiet_on) | (refine a18 ?_; go_big_quiet_op; go_big_quiet_on) | (refine a41 ?_; go_big_quiet_op; go_big_quiet_on) | (go_big_quiet_op; go_big_quiet_on) | (go_big_quiet_op; refine ⟨_, fun _ _ => rfl, ?_⟩; go_big_quiet_on))))
   refine wpQuiet_nil ?_
   intro w' HM'
   clear H
   have H := Zb (Ex.made (l := (g2, 9, [.string ⟨A.toArray⟩, .string ⟨B.toArray⟩]) :: (g3, 9, cur3) :: (g1, 9, cur1) :: l) HM'.out HG.out HX.out HF.out)
   clear HM HM' HF HG HX
   go_wp2_with (first | refine a63 ?_ | (go_at_call 22; (with_reducible refine (Yq hN z hz H).mono ?_); clear H; rintro e w' ⟨rfl, H⟩) | (go_at_call 25; (with_reducible refine (Zdt z s' z8 hs H).mono ?_); clear H; rintro e w' ⟨rfl, H⟩) | fail)
   go_ret
   exact ⟨rfl, Zb H.out.drop3⟩
theorem ZfL (t w1 : Tx) (hl : t.length ≤ 100) (page : Int) (hL : Zl t 32 = [[80, 79, 80], w1]) (hl1 : w1.length ≤ 100) (q : List Tx) (hq : Zl w1 44 = q) (hq1 : 1 ≤ q.length) (hq3 : q.length ≤ 3) (A B : Tx) (hA : sg q 0 = A) (hB : sg q 1 = B) {g : Rg → Nat} {st : Rg → Nat → Rg} (hN : Nm A g st 65536) (v : Nat) (s1 : Cs) (hv : Hid (s.popV = v)) (hs : Hid (s.pop = s1)) (r : Rg) (hr : Hid (st s1.r v = r)) (H : Hid (Ex W0 w x b s tq ix pg l (n + 2))) :
  CX 23 #[.pointer (some ⟨x, 0, none⟩), .string ⟨t.toArray⟩, .int .i64 page] w (.int .i64 10) fun w' => Hid (Ex W0 w' x b (s1.setR r) tq ix page l n) := by
 have m32 : ((32 : UInt8).toNat : Int) = 32 := rfl
 have l32 : t.length ≤ 2000 := by omega
 have HA := Zb hA
 have HB := Zb hB
 have m44 : ((44 : UInt8).toNat : Int) = 44 := rfl
 have l44 : w1.length ≤ 2000 := by omega
 clear hA hB
 go_enter Tryz.func23, Tryz.ntmps23
 go_upto_region 3 with (first | ((with_reducible apply xpY (s' := s) (pg' := page) H); (refine ⟨rfl, rfl, rfl, jz, ⟨rfl, fun h => h⟩, oneInt.size, rfl, rfl, (by decide), rfl⟩); clear H; intro w' H) | (go_at_call 44; (with_reducible refine (ZJ t 32 32 m32 l32 _).mono ?_); rintro e w' ⟨g1, cap1, cur1, rfl, -, hg, hW, hc, hb⟩; rw [hL] at hc ⊢; have H' := Zb (H.out.plus hb hg hW); have HC1 := Zb hc; clear H hb hg hW hc; have H := H'; clear H') | fail)
 have d0 : cur1[0]? = some (.string ⟨[80, 79, 80].toArray⟩) := HC1.out 0 (show (0 : Nat) < 2 by decide)
 have d1 : cur1[1]? = some (.string ⟨w1.toArray⟩) := HC1.out 1 (show (1 : Nat) < 2 by decide)
 go_upto_region 6 with (first | (refine a40 ?_; clear H; intro w' g2 H) | refine a61 ?_ | (go_at_call 44; (with_reducible refine (ZJ w1 44 44 m44 l44 _).mono ?_); rintro e w' ⟨g3, cap3, cur3, rfl, -, hg, hW, hc, hb⟩; rw [hq] at hc ⊢; have H' := Zb (H.out.plus2 hb hg hW); have HC3 := Zb hc; clear H hb hg hW hc; have H := H'; clear H') | fail)
 go_loopw [28] (fun i wr => ∃ j : Nat, j ≤ q.length ∧ i = .int .i64 (j : Int) ∧ Hid (Ex W0 wr x b s tq ix page ((g2, 9, [.string ⟨(pp q j 0).toArray⟩, .string ⟨(pp q j 1).toArray⟩]) :: (g3, 9, cur3) :: (g1, 9, cur1) :: l) (n + 2))) (fun i _ => q.length - (intOf i).toNat)
 case atStart => exact ⟨0, by omega, rfl, H⟩
 case round =>
  clear H
  obtain ⟨j, hj, rfl, H⟩ := hrel
  by_cases hlt : j < q.length
  ·have hlt' : (j : Int) < (q.length : Int) := by omega
   exact k10
  ·obtain rfl : j = q.length := by omega
   rw [Ue q 0, Ue q 1, HA.out, HB.out] at H
   go_upto_region 11 with (first | fail)
   obtain ⟨HF, HG, X, HX, HM⟩ := H.out.hid
   simp only [List.cons_append] at HM
   (refine Zo HM (by kernel_rfl) (by kernel_rfl) ?_; (try simp only [Act.put, Ze, Zc, Zd]); repeat ((fail_if_success (with_reducible refine wpQuiet_nil ?_)); first | go_big_quiet_skip | (go_big_quiet_want; first | (refine a17 ?_; go_big_quiet_op; go_big_quiet_on) | (refine a18 ?_; go_big_quiet_op; go_big_quiet_on) | (refine a41 ?_; go_big_quiet_op; go_big_quiet_on) | (go_big_quiet_op; go_big_quiet_on) | (go_big_quiet_op; refine ⟨_, fun _ _ => rfl, ?_⟩; go_big_quiet_on))))
   refine wpQuiet_nil ?_
   intro w' HM'
   clear H
   have H := Zb (Ex.made (l := (g2, 9, [.string ⟨A.toArray⟩, .string ⟨B.toArray⟩]) :: (g3, 9, cur3) :: (g1, 9, cur1) :: l) HM'.out HG.out HX.out HF.out)
   clear HM HM' HF HG HX
   go_wp2_with (first | refine a63 ?_ | (go_at_call 50; (with_reducible refine (Zke v s1 hv hs H).mono ?_); clear H; rintro e w' ⟨rfl, bv, H⟩) | (go_at_call 49; (with_reducible refine (Z1 hN v bv r hr H).mono ?_); clear H; rintro e w' ⟨rfl, H⟩) | fail)
   go_ret
   exact ⟨rfl, Zb H.out.drop3⟩
abbrev Q3 (q : Nat) : Prop := q = 0 ∨ q = 221 ∨ q = 253
def Zr (q : Nat) : Int := if q = 0 then 0 else if q = 221 then 3 else 4
def meT (q : Nat) : Tx := if q = 0 then [40, 72, 76, 41] else if q = 221 then [40, 73, 88, 43, 100, 41] else [40, 73, 89, 43, 100, 41]
def jpT (q : Nat) : Tx := if q = 0 then [40, 72, 76, 41] else if q = 221 then [40, 73, 88, 41] else [40, 73, 89, 41]
def pn (q p : Nat) : Nat := if p = 2 then (if q = 221 then 5 else if q = 253 then 6 else 2) else p
def psn (q p : Nat) : Nat := if p = 3 then 4 else pn q p
def sA (y : Nat) (t : Tx) : Tx := if y = 0 ∨ y = 1 ∨ y = 3 then [65] else t
def sB (y : Nat) (t : Tx) : Tx := if y = 0 ∨ y = 1 ∨ y = 3 then t else []
def W2 (t hd A B : Tx) : Bool :=
 decide (t.length ≤ 24) && decide (Zl t 32 = [hd, sg (Zl t 32) 1]) && decide ((sg (Zl t 32) 1).length ≤ 100) && decide (1 ≤ (Zl (sg (Zl t 32) 1) 44).length) && decide ((Zl (sg (Zl t 32) 1) 44).length ≤ 3) && decide (sg (Zl (sg (Zl t 32) 1) 44) 0 = A) && decide (sg (Zl (sg (Zl t 32) 1) 44) 1 = B)
def W1 (t hd : Tx) : Bool := decide (t.length ≤ 24) && decide (Zl t 32 = [hd])
theorem W2.out {t hd A B : Tx} (h : W2 t hd A B = true) : t.length ≤ 24 ∧ ∃ w1 q, Zl t 32 = [hd, w1] ∧ w1.length ≤ 100 ∧ Zl w1 44 = q ∧ 1 ≤ q.length ∧ q.length ≤ 3 ∧ sg q 0 = A ∧ sg q 1 = B := by
 unfold W2 at h
 simp only [Bool.and_eq_true, decide_eq_true_eq] at h
 obtain ⟨⟨⟨⟨⟨⟨h1, h2⟩, h3⟩, h4⟩, h5⟩, h6⟩, h7⟩ := h
 exact ⟨h1, _, _, h2, h3, rfl, h4, h5, h6, h7⟩
theorem W1.out {t hd : Tx} (h : W1 t hd = true) : t.length ≤ 24 ∧ Zl t 32 = [hd] := by
 unfold W1 at h
 simp only [Bool.and_eq_true, decide_eq_true_eq] at h
 exact h
theorem Ex.fewer {x b tq n m : Nat} (h : Hid (Ex W0 w x b s tq ix pg l n)) (hm : m ≤ n) : Hid (Ex W0 w x b s tq ix pg l m) := Zb ⟨h.out.fits, ⟨h.out.fx.good.less hm, h.out.fx.own⟩⟩
theorem Ex.px {x b tq n p : Nat} (h : Hid (Ex W0 w x b s tq ix pg l n)) : Hid (Ex W0 w x b (s.ahead p) tq ix pg l n) := Zb ⟨h.out.fits, h.out.fx⟩
section
variable {t hd A B : Tx} {page : Int} {m : Nat} {vs : List Value} {s s' E : Cs} {tq tq' k k' : Nat} {ix ix' : Bool} {c C : Int}
theorem Zg.more (h : Zg t page s tq ix k c E) (hk : k ≤ k') : Zg t page s tq ix k' c E := fun W0 w x b n pg l H =>
 (h W0 w x b (n + (k' - k)) pg l (by rw [show n + (k' - k) + k = n + k' by omega]; exact H)).mono fun _ _ ⟨h1, q, i, h2⟩ => ⟨h1, q, i, Ex.fewer h2 (by omega)⟩
theorem Zg.ahead {p : Nat} (h : Zg t page (s.ahead p) tq ix k c E) : Zg t page s tq ix k c E := fun W0 w x b n pg l H => h W0 w x b n pg l (Ex.px H)
theorem Z4 (h : W2 t hd A B = true) (T : Two t A B page hd m vs) (D : zn m vs s tq ix page k c s' tq' ix') (ec : c = C) (es : s' = E) : Zg t page s tq ix k C E := fun W0 w x b n pg l H => by
 subst ec es
 obtain ⟨h1, w1, q, h2, h3, h4, h5, h6, h7, h8⟩ := W2.out h
 exact (vg t hd w1 (by omega) page h2 h3 q h4 h5 h6 A B h7 h8 m vs T k c s' tq' ix' D H).mono fun _ _ ⟨a, b⟩ => ⟨a, _, _, b⟩
theorem Vf (h : W1 t hd = true) (T : Single t [] [] page hd m vs) (D : zn m vs s tq ix page k c s' tq' ix') (ec : c = C) (es : s' = E) : Zg t page s tq ix k C E := fun W0 w x b n pg l H => by
 subst ec es
 obtain ⟨h1, h2⟩ := W1.out h
 exact (ZfI t hd (by omega) page h2 m vs T k c s' tq' ix' D H).mono fun _ _ ⟨a, b⟩ => ⟨a, _, _, b⟩
theorem Zbc (h : W1 t hd = true) (hp : ¬ page = 2) (T : Alone t [] [] page hd m vs) (D : zn m vs s tq ix page k c s' tq' ix') (ec : c = C) (es : s' = E) : Zg t page s tq ix k C E := fun W0 w x b n pg l H => by
 subst ec es
 obtain ⟨h1, h2⟩ := W1.out h
 exact (ZaW t hd (by omega) page hp h2 m vs T k c s' tq' ix' D H).mono fun _ _ ⟨a, b⟩ => ⟨a, _, _, b⟩
theorem Zg.fit (h : Zg t page s tq ix k c s') (e : s.r.Fits → s' = E) : Zg t page s tq ix k c E := fun W0 w x b n pg l H => by
 rw [← e H.out.fits]; exact h W0 w x b n pg l H
end
theorem ZC (B : Bool) (x y : Nat) : (cond B (x : Int) (y : Int)) = ((cond B x y : Nat) : Int) := by cases B <;> rfl
theorem ZdH (z : Nat) : (z + 1) % 256 = up1 z % 256 := by unfold up1; omega
theorem VL (q : Nat) (hq : Q3 q) : Mem (meT q) := by
 rcases hq with rfl | rfl | rfl
 ·exact .inl rfl
 ·exact .inr (.inl rfl)
 ·exact .inr (.inr rfl)
theorem UY (n q : Nat) (hn : n ≤ 7 ∧ n ≠ 6) (h : Q3 q) : Hid (Jn (leT n q) = false) := by
 have k : ∀ q ∈ [0, 221, 253], ∀ n ∈ [0, 1, 2, 3, 4, 5, 7], Jn (leT n q) = false := by decide +kernel
 exact Zb (k q (by rcases h with rfl | rfl | rfl <;> decide) n (by simp; omega))
theorem jR (q : Nat) (hq : Q3 q) : Hid (Jn (meT q) = false) := by rcases hq with rfl | rfl | rfl <;> rfl
theorem pair_na : ∀ k, k < 7 → Jn (naT k) = true := by decide +kernel
theorem na_nn : ∀ k, k < 7 → (naT k == [40, 110, 110, 41]) = false := by decide +kernel
theorem na_n2 : ∀ k, k < 7 → (naT k == [110, 110]) = false := by decide +kernel
theorem na_a : ∀ k, k < 7 → (naT k == [65]) = false := by decide +kernel
theorem VM (s : Cs) (h : s.point.r.Fits) : s.pointV < 65536 := by
 unfold Cs.pointV
 by_cases hp : s.px = 0
 ·rw [if_pos hp]
  have e : s.point = s := by unfold Cs.point; rw [if_pos hp]
  rw [e] at h
  exact s.r.pair_lt h _
 ·rw [if_neg hp]; exact Zt _ _
theorem KH (t A B : Tx) (page : Int) (y : Nat) (hy : y < 8) : Two t A B page (suT.getD y []) 47 [.string ⟨(suT.getD y []).toArray⟩, .string ⟨A.toArray⟩, .string ⟨B.toArray⟩] := by
 obtain rfl | rfl | rfl | rfl | rfl | rfl | rfl | rfl : y = 0 ∨ y = 1 ∨ y = 2 ∨ y = 3 ∨ y = 4 ∨ y = 5 ∨ y = 6 ∨ y = 7 := by omega
 ·exact .add_ _
 ·exact .adc_ _
 ·exact .sub_ _
 ·exact .sbc_ _
 ·exact .and_ _
 ·exact .xor_ _
 ·exact .or_ _
 ·exact .cp_ _
end
end Go.Proofs.YtgdeeiimkhjfiaaGreatDoor
