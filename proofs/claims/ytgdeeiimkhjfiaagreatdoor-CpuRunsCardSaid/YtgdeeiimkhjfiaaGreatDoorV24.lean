import Derived.Test.YtgdeeiimkhjfiaaGreatDoorV23
set_option maxRecDepth 100000
set_option maxHeartbeats 6400000
set_option linter.unusedSimpArgs false
set_option linter.unusedVariables false
namespace Go.Proofs.YtgdeeiimkhjfiaaGreatDoor
open Go.RowKit
section
variable {W0 w : World} {x b tq n c : Nat} {s : Cs} {ix : Bool} {pg : Int} {l : Zj}
def x_turns : Tx := [82, 76, 67, 124, 82, 82, 67, 124, 82, 76, 124, 82, 82, 124, 83, 76, 65, 124, 83, 82, 65, 124, 83, 76, 76, 124, 83, 82, 76]
def x_acts : Tx := [124, 66, 73, 84, 32, 124, 82, 69, 83, 32, 124, 83, 69, 84, 32]
def x_many : Tx := [76, 68, 73, 124, 67, 80, 73, 124, 73, 78, 73, 124, 79, 85, 84, 73, 124, 76, 68, 68, 124, 67, 80, 68, 124, 73, 78, 68, 124, 79, 85, 84, 68, 124, 76, 68, 73, 82, 124, 67, 80, 73, 82, 124, 73, 78, 73, 82, 124, 79, 84, 73, 82, 124, 76, 68, 68, 82, 124, 67, 80, 68, 82, 124, 73, 78, 68, 82, 124, 79, 84, 68, 82]
def UQ (k : Nat) : Tx := sg (Zl x_turns 124) k
def Vz (k : Nat) : Tx := sg (Zl x_acts 124) k
def Zdi (k : Nat) : Tx := sg (Zl x_many 124) k
theorem len_turns : ∀ k < 8, (UQ k).length ≤ 16 := by decide +kernel
theorem len_acts : ∀ k < 4, (Vz k).length ≤ 16 := by decide +kernel
theorem jH (y : Nat) (hy : y < 8) : (ByteArray.mk #[48, 49, 50, 51, 52, 53, 54, 55]).extract y (y + 1) = ⟨[UInt8.ofNat (48 + y)].toArray⟩ := by
 obtain rfl | rfl | rfl | rfl | rfl | rfl | rfl | rfl : y = 0 ∨ y = 1 ∨ y = 2 ∨ y = 3 ∨ y = 4 ∨ y = 5 ∨ y = 6 ∨ y = 7 := by omega
 all_goals decide +kernel
theorem Zfk (w : World) : Calls Tryz.prog 80 #[.string ⟨x_turns.toArray⟩, .int .u8 124] w fun e w' => ∃ g cap, e = .returned (.slice (some ⟨g, 0, none⟩) 8 cap) ∧ (∀ k < 8, w'.cell? ⟨g, k, none⟩ = some (.string ⟨(UQ k).toArray⟩)) ∧ Below w.heap.size w w' := by
 refine (Ya x_turns 124 124 rfl (by decide) w).mono ?_
 exact k43
theorem Ziv (w : World) : Calls Tryz.prog 80 #[.string ⟨x_acts.toArray⟩, .int .u8 124] w fun e w' => ∃ g cap, e = .returned (.slice (some ⟨g, 0, none⟩) 4 cap) ∧ (∀ k < 4, w'.cell? ⟨g, k, none⟩ = some (.string ⟨(Vz k).toArray⟩)) ∧ Below w.heap.size w w' := by
 refine (Ya x_acts 124 124 rfl (by decide) w).mono ?_
 rintro e w' ⟨v, rfl, ht, hb⟩
 obtain ⟨g, cap, rfl, hc⟩ := Zfh (n := 4) ht (by decide +kernel)
 exact ⟨g, cap, rfl, hc, hb⟩
theorem Zfl (w : World) : Calls Tryz.prog 80 #[.string ⟨x_many.toArray⟩, .int .u8 124] w fun e w' => ∃ g cap, e = .returned (.slice (some ⟨g, 0, none⟩) 16 cap) ∧ (∀ k < 16, w'.cell? ⟨g, k, none⟩ = some (.string ⟨(Zdi k).toArray⟩)) ∧ Below w.heap.size w w' := by
 refine (Ya x_many 124 124 rfl (by decide) w).mono ?_
 rintro e w' ⟨v, rfl, ht, hb⟩
 obtain ⟨g, cap, rfl, hc⟩ := Zfh (n := 16) ht (by decide +kernel)
 exact ⟨g, cap, rfl, hc, hb⟩
theorem Zfm (n : Nat) (t : Tx) (ht : t.length ≤ 24) (hn : n < 64) (w : World) : CB 38 #[.int .u8 (n : Int), .string ⟨(t).toArray⟩] w (.string ⟨(UQ (n / 8) ++ ([32] ++ t)).toArray⟩) := by
 obtain ⟨d, hd⟩ : ∃ d, d = n / 8 := ⟨_, rfl⟩
 have d7 : d < 8 := by omega
 have d8 : (d : Int) < 8 := by omega
 have l1 := len_turns d d7
 have qd1 : IntKind.u8.wrap ((n : Int).tdiv 8) = (d : Int) := by rw [Int.tdiv_eq_ediv_of_nonneg (by omega), IntKind.wrap_u8]; omega
 have qd2 : (n : Int) / 8 = (d : Int) := by omega
 have qd3 : IntKind.u8.wrap (d : Int) = (d : Int) := by rw [IntKind.wrap_u8]; omega
 rw [← hd]
 have n1 : (n : Int) < 64 := by omega
 clear hd hn
 have HM := Zb (Own.start w)
 go_enter Tryz.func38, Tryz.ntmps38
 go_wp2_with (first | (go_at_call 80; refine (Zfk _).mono ?_; rintro e w2 ⟨g, cap, rfl, hc, hb⟩; have x0 := hc d d7;  (first | (have y := (hb.cell (block_lt_of_cell ca)).trans ca; clear ca; have ca := y; clear y) | skip); (first | (have ca := x0; clear x0) | skip);  clear hc; replace HM := Zb (HM.out.call hb); clear hb) | ((with_reducible apply ZQ); exact rfl; exact rfl; exact rfl; (first | assumption | decide | ((try simp only [List.length_append, List.length_cons, List.length_nil]); omega)); exact rfl))
 all_goals go_ret
 all_goals exact ⟨rfl, Own.fin HM⟩
theorem Zfn (n : Nat) (t : Tx) (ht : t.length ≤ 24) (hn : 64 ≤ n) (h2 : n < 256) (w : World) : CB 38 #[.int .u8 (n : Int), .string ⟨(t).toArray⟩] w (.string ⟨(Vz (n / 64) ++ ([UInt8.ofNat (48 + n / 8 % 8)] ++ ([44] ++ t))).toArray⟩) := by
 obtain ⟨d, hd⟩ : ∃ d, d = n / 8 := ⟨_, rfl⟩
 obtain ⟨y, hy⟩ : ∃ y, y = n / 8 % 8 := ⟨_, rfl⟩
 obtain ⟨x, hx⟩ : ∃ x, x = n / 64 := ⟨_, rfl⟩
 have x7 : x < 4 := by omega
 have y7 : y < 8 := by omega
 have x8 : (x : Int) < 4 := by omega
 have y8 : (y : Int) < 8 := by omega
 have l1 := len_acts x x7
 have qd1 : IntKind.u8.wrap ((n : Int).tdiv 8) = (d : Int) := by rw [Int.tdiv_eq_ediv_of_nonneg (by omega), IntKind.wrap_u8]; omega
 have qd2 : (n : Int) / 8 = (d : Int) := by omega
 have qd3 : IntKind.u8.wrap (d : Int) = (d : Int) := by rw [IntKind.wrap_u8]; omega
 have qx1 : IntKind.u8.wrap ((n : Int).tdiv 64) = (x : Int) := by rw [Int.tdiv_eq_ediv_of_nonneg (by omega), IntKind.wrap_u8]; omega
 have qx2 : (n : Int) / 64 = (x : Int) := by omega
 have qx3 : IntKind.u8.wrap (x : Int) = (x : Int) := by rw [IntKind.wrap_u8]; omega
 have ry1 : (d : Int).tmod 8 = (y : Int) := by rw [Int.tmod_eq_emod_of_nonneg (by omega)]; omega
 have ry2 : (d : Int) % 8 = (y : Int) := by omega
 rw [← hy, ← hx]
 obtain ⟨c, hc⟩ : ∃ c, c = UInt8.ofNat (48 + y) := ⟨_, rfl⟩
 have cx := jH y y7
 rw [← hc] at cx
 rw [← hc]
 have n1 : (64 : Int) ≤ (n : Int) := by omega
 have n2 : (n : Int) < 256 := by omega
 have s1 : ¬ 9223372036854775807 < (Vz x).length + 1 := by omega
 have s2 : ¬ 9223372036854775807 < (Vz x).length + 1 + 1 := by omega
 have s3 : ¬ 9223372036854775807 < (Vz x).length + 1 + 1 + t.length := by omega
 have yy1 : IntKind.u8.wrap ((y : Int) + 1) = (y : Int) + 1 := by rw [IntKind.wrap_u8]; omega
 have yy2 : (y : Int) + 1 ≤ 8 := by omega
 have yy3 : (0 : Int) ≤ (y : Int) + 1 := by omega
 have yy4 : (y : Int) ≤ (y : Int) + 1 := by omega
 clear hd hy hx hc hn h2
 have HM := Zb (Own.start w)
 go_enter Tryz.func38, Tryz.ntmps38
 go_wp2_with fail
 have HM' := Zb HM.out.drew
 clear HM; have HM := HM'; clear HM'
 go_region_with (first | (go_at_call 80; refine (Ziv _).mono ?_; rintro e w2 ⟨g, cap, rfl, hc, hb⟩; have x0 := hc x x7;  (first | (have y := (hb.cell (block_lt_of_cell ca)).trans ca; clear ca; have ca := y; clear y) | skip); (first | (have ca := x0; clear x0) | skip);  clear hc; replace HM := Zb (HM.out.call hb); clear hb))
 all_goals go_wp2_with (first | ((with_reducible apply ZQ); exact rfl; exact rfl; exact rfl; (first | assumption | decide | ((try simp only [List.length_append, List.length_cons, List.length_nil]); omega)); exact rfl))
 all_goals go_ret
 all_goals refine ⟨congrArg (fun b : ByteArray => Ending.returned (.string b)) (?_ : (_ : ByteArray) = _), Own.fin HM⟩
 all_goals simp only [KG, List.append_assoc, List.cons_append, List.nil_append]
theorem Jb (n : Nat) (hn : n < 256) (t : Tx) (ht : t.length ≤ 24) (w : World) : CB 38 #[.int .u8 (n : Int), .string ⟨t.toArray⟩] w (.string ⟨(ZM n t).toArray⟩) := by
 by_cases h1 : n < 64
 ·have e : ZM n t = UQ (n / 8) ++ ([32] ++ t) := by rw [ZM, if_pos h1]; simp only [List.append_assoc]; rfl
  rw [e]; exact Zfm n t ht h1 w
 ·have e : ZM n t = Vz (n / 64) ++ ([UInt8.ofNat (48 + n / 8 % 8)] ++ ([44] ++ t)) := by rw [ZM, if_neg h1]; simp only [List.append_assoc]; rfl
  rw [e]; exact Zfn n t ht (by omega) hn w
theorem k32 {P : Prop} (h : P := by
 have HM := Zb (Own.start w)
 go_enter Tryz.func40, Tryz.ntmps40
 go_wp2_with fail
 all_goals go_ret
 all_goals exact ⟨rfl, Own.fin HM⟩) : P := h
theorem Zk5 (n : Nat) (hn : n < 64) (w : World) : CB 40 #[.int .u8 (n : Int)] w (.string ⟨([78, 79, 80]).toArray⟩) := by
 have n1 : (n : Int) < 64 := by omega
 exact k32
theorem Zk6 (n : Nat) (hn : 64 ≤ n) (h2 : n < 128) (w : World) : CB 40 #[.int .u8 (n : Int)] w (.string ⟨(Zit (n - 64)).toArray⟩) := by
 obtain ⟨r, hr⟩ : ∃ r, r = n - 64 := ⟨_, rfl⟩
 have r7 : r < 64 := by omega
 have r8 : (r : Int) < 64 := by omega
 have e1 : (n : Int) - 64 = (r : Int) := by omega
 rw [← hr]
 have n1 : (64 : Int) ≤ (n : Int) := by omega
 have n2 : (n : Int) < 128 := by omega
 clear hr hn h2
 have HM := Zb (Own.start w)
 go_enter Tryz.func40, Tryz.ntmps40
 go_wp2_with (first | (go_at_call 82; refine (Zk4 _).mono ?_; rintro e w2 ⟨g, cap, rfl, hc, hb⟩; have x0 := hc r r7;  (first | (have y := (hb.cell (block_lt_of_cell ca)).trans ca; clear ca; have ca := y; clear y) | skip); (first | (have ca := x0; clear x0) | skip);  clear hc; replace HM := Zb (HM.out.call hb); clear hb))
 all_goals go_ret
 all_goals exact ⟨rfl, Own.fin HM⟩
theorem Zk7 (n : Nat) (hn : 128 ≤ n) (h2 : n < 160) (w : World) : CB 40 #[.int .u8 (n : Int)] w (.string ⟨([78, 79, 80]).toArray⟩) := by
 have n1 : (128 : Int) ≤ (n : Int) := by omega
 have n2 : (n : Int) < 160 := by omega
 exact k32
theorem Zk8 (n : Nat) (hn : 160 ≤ n) (h2 : n < 192) (h3 : n % 8 < 4) (w : World) : CB 40 #[.int .u8 (n : Int)] w (.string ⟨(Zdi ((n - 160) / 8 * 4 + n % 8)).toArray⟩) := by
 obtain ⟨r, hr⟩ : ∃ r, r = n - 160 := ⟨_, rfl⟩
 obtain ⟨q, hq⟩ : ∃ q, q = r / 8 := ⟨_, rfl⟩
 obtain ⟨m, hm⟩ : ∃ m, m = q * 4 := ⟨_, rfl⟩
 obtain ⟨b, hb⟩ : ∃ b, b = n % 8 := ⟨_, rfl⟩
 obtain ⟨i, hi⟩ : ∃ i, i = m + b := ⟨_, rfl⟩
 have i7 : i < 16 := by omega
 have i8 : (i : Int) < 16 := by omega
 have b8 : (b : Int) < 4 := by omega
 have e1 : (n : Int) - 160 = (r : Int) := by omega
 have qq1 : IntKind.u8.wrap ((r : Int).tdiv 8) = (q : Int) := by rw [Int.tdiv_eq_ediv_of_nonneg (by omega), IntKind.wrap_u8]; omega
 have qq2 : (r : Int) / 8 = (q : Int) := by omega
 have qq3 : IntKind.u8.wrap (q : Int) = (q : Int) := by rw [IntKind.wrap_u8]; omega
 have e2 : (q : Int) * 4 = (m : Int) := by omega
 have rb1 : (n : Int).tmod 8 = (b : Int) := by rw [Int.tmod_eq_emod_of_nonneg (by omega)]; omega
 have rb2 : (n : Int) % 8 = (b : Int) := by omega
 have e3 : (m : Int) + (b : Int) = (i : Int) := by omega
 have m8 : (m : Int) < 16 := by omega
 have q8 : (q : Int) < 4 := by omega
 have r9 : (r : Int) < 32 := by omega
 rw [← hr, ← hq, ← hm, ← hb, ← hi]
 have n1 : (160 : Int) ≤ (n : Int) := by omega
 have n2 : (n : Int) < 192 := by omega
 clear hr hq hm hb hi hn h2 h3
 have HM := Zb (Own.start w)
 go_enter Tryz.func40, Tryz.ntmps40
 go_wp2_with (first | (go_at_call 80; refine (Zfl _).mono ?_; rintro e w2 ⟨g, cap, rfl, hc, hb⟩; have x0 := hc i i7;  (first | (have y := (hb.cell (block_lt_of_cell ca)).trans ca; clear ca; have ca := y; clear y) | skip); (first | (have ca := x0; clear x0) | skip);  clear hc; replace HM := Zb (HM.out.call hb); clear hb))
 all_goals go_ret
 all_goals exact ⟨rfl, Own.fin HM⟩
theorem Zk9 (n : Nat) (hn : 160 ≤ n) (h2 : n < 192) (h3 : 4 ≤ n % 8) (w : World) : CB 40 #[.int .u8 (n : Int)] w (.string ⟨([78, 79, 80]).toArray⟩) := by
 obtain ⟨b, hb⟩ : ∃ b, b = n % 8 := ⟨_, rfl⟩
 have b8 : (4 : Int) ≤ (b : Int) := by omega
 have rb1 : (n : Int).tmod 8 = (b : Int) := by rw [Int.tmod_eq_emod_of_nonneg (by omega)]; omega
 have rb2 : (n : Int) % 8 = (b : Int) := by omega
 have n1 : (160 : Int) ≤ (n : Int) := by omega
 have n2 : (n : Int) < 192 := by omega
 clear hb hn h2 h3
 exact k32
theorem Zla (n : Nat) (hn : 192 ≤ n) (h2 : n < 256) (w : World) : CB 40 #[.int .u8 (n : Int)] w (.string ⟨([78, 79, 80]).toArray⟩) := by
 have n1 : (192 : Int) ≤ (n : Int) := by omega
 have n2 : (n : Int) < 256 := by omega
 exact k32
theorem Ziw (n : Nat) (hn : n < 256) (w : World) : CB 40 #[.int .u8 (n : Int)] w (.string ⟨(Yt n).toArray⟩) := by
 by_cases h1 : 64 ≤ n ∧ n < 128
 ·have e : Yt n = Zit (n - 64) := by rw [Yt, if_pos h1]; rfl
  rw [e]; exact Zk6 n h1.1 h1.2 w
 ·by_cases h2 : 160 ≤ n ∧ n < 192 ∧ n % 8 < 4
  ·have e : Yt n = Zdi ((n - 160) / 8 * 4 + n % 8) := by rw [Yt, if_neg h1, if_pos h2]; rfl
   rw [e]; exact Zk8 n h2.1 h2.2.1 h2.2.2 w
  ·have e : Yt n = [78, 79, 80] := by rw [Yt, if_neg h1, if_neg h2]
   rw [e]
   by_cases a : n < 64
   ·exact Zk5 n a w
   ·by_cases b : n < 160
    ·exact Zk7 n (by omega) b w
    ·by_cases c : n < 192
     ·exact Zk9 n (by omega) c (by omega) w
     ·exact Zla n (by omega) hn w
end
end Go.Proofs.YtgdeeiimkhjfiaaGreatDoor
set_option linter.unusedSimpArgs false
set_option linter.unusedVariables false
namespace Go.Proofs.YtgdeeiimkhjfiaaGreatDoor
open Go.RowKit
section
variable {W0 w : World} {x b tq n c : Nat} {s : Cs} {ix : Bool} {pg : Int} {l : Zj}
def rW (n : Nat) : List Tx := Zl (Yh n) 32
def rP (n : Nat) : List Tx := Zl (sg (rW n) 1) 44
theorem rW_len : ∀ n < 256, (rW n).length ≤ 3 ∧ 1 ≤ (rW n).length ∧ (sg (rW n) 0).length ≤ 16 ∧ (sg (rW n) 1).length ≤ 16 := by decide +kernel
theorem rP_len : ∀ n < 256, (rP n).length ≤ 3 ∧ (∀ j < 4, (sg (rP n) j).length ≤ 16) := by decide +kernel
theorem YT (n : Nat) (hn : n < 256) (t : Tx) (ht : Yh n = t) : ∀ w, CB 37 #[.int .u8 (n : Int)] w (.string ⟨t.toArray⟩) := by
 subst ht; exact zf n hn
theorem Jc (s part : Tx) (c : Bool) (hc : Jh s part = c) (hs : s.length ≤ 400) (ho : part ≠ []) (hol : part.length ≤ 8) : ∀ w, CB 21 #[.string ⟨s.toArray⟩, .string ⟨part.toArray⟩] w (.bool c) := by
 subst hc; exact ZgF s part hs ho hol
theorem ind_a (n : Nat) (hn : n < 256) (t b : Tx) (ht : Yh n = t) (hb : b.length ≤ 2) (lt : t.length ≤ 16) (h1 : (t == [69, 88, 32, 68, 69, 44, 72, 76]) = true) (w : World) : CB 41 #[.int .u8 (n : Int), .string ⟨b.toArray⟩] w (.string ⟨(t).toArray⟩) := by
 have HP := Zb (YT n hn t ht)
 clear ht
 have HM := Zb (Own.start w)
 go_enter Tryz.func41, Tryz.ntmps41
 go_wp2_with (first | (go_at_call 37; (with_reducible refine (HP.out _).mono ?_); rintro e w' ⟨rfl, hb⟩; replace HM := Zb (HM.out.call hb); clear hb))
 go_ret
 exact ⟨rfl, Own.fin HM⟩
theorem ind_b (n : Nat) (hn : n < 256) (t b : Tx) (ht : Yh n = t) (hb : b.length ≤ 2) (lt : t.length ≤ 16) (h1 : (t == [69, 88, 32, 68, 69, 44, 72, 76]) = false) (h2 : (t == [74, 80, 32, 40, 72, 76, 41]) = true) (w : World) : CB 41 #[.int .u8 (n : Int), .string ⟨b.toArray⟩] w (.string ⟨([74, 80, 32, 40] ++ (b ++ [41])).toArray⟩) := by
 have HP := Zb (YT n hn t ht)
 clear ht
 have HM := Zb (Own.start w)
 go_enter Tryz.func41, Tryz.ntmps41
 go_wp2_with (first | (go_at_call 37; (with_reducible refine (HP.out _).mono ?_); rintro e w' ⟨rfl, hb⟩; replace HM := Zb (HM.out.call hb); clear hb) | ((with_reducible apply ZQ); exact rfl; exact rfl; exact rfl; (first | assumption | decide | ((try simp only [List.length_append, List.length_cons, List.length_nil]); omega)); exact rfl))
 go_ret
 exact ⟨rfl, Own.fin HM⟩
theorem ind_c (n : Nat) (hn : n < 256) (t b : Tx) (ht : Yh n = t) (hb : b.length ≤ 2) (lt : t.length ≤ 16) (h1 : (t == [69, 88, 32, 68, 69, 44, 72, 76]) = false) (h2 : (t == [74, 80, 32, 40, 72, 76, 41]) = false) (h3 : Jh t [40, 72, 76, 41] = true) (w : World) : CB 41 #[.int .u8 (n : Int), .string ⟨b.toArray⟩] w (.string ⟨(Zv t [40, 72, 76, 41] ([40] ++ (b ++ [43, 100, 41]))).toArray⟩) := by
 have HP := Zb (YT n hn t ht)
 have HH1 := Zb (Jc t [40, 72, 76, 41] true h3 (by omega) (by decide) (by decide))
 have HR : Hid (∀ w, Calls Tryz.prog 42 #[.string ⟨t.toArray⟩, .string ⟨#[40, 72, 76, 41]⟩, .string ⟨([40] ++ (b ++ [43, 100, 41])).toArray⟩] w fun e w' => e = .returned (.string ⟨(Zv t [40, 72, 76, 41] ([40] ++ (b ++ [43, 100, 41]))).toArray⟩) ∧ Below w.heap.size w w') := jE t [40, 72, 76, 41] ([40] ++ (b ++ [43, 100, 41])) (by omega) (by decide) (by decide) (by simp only [List.length_append, List.length_cons, List.length_nil]; omega)
 obtain ⟨z, hz⟩ : ∃ z, z = Zv t [40, 72, 76, 41] ([40] ++ (b ++ [43, 100, 41])) := ⟨_, rfl⟩
 rw [← hz] at HR
 rw [← hz]
 clear hz
 clear ht
 have HM := Zb (Own.start w)
 go_enter Tryz.func41, Tryz.ntmps41
 go_wp2_with (first | (go_at_call 37; (with_reducible refine (HP.out _).mono ?_); rintro e w' ⟨rfl, hb⟩; replace HM := Zb (HM.out.call hb); clear hb) | (go_at_call 21; refine (HH1.out _).mono ?_; rintro e w' ⟨rfl, hb⟩; replace HM := Zb (HM.out.call hb); clear hb) | ((with_reducible apply ZQ); exact rfl; exact rfl; exact rfl; (first | assumption | decide | ((try simp only [List.length_append, List.length_cons, List.length_nil]); omega)); exact rfl) | (go_at_call 42; refine (HR.out _).mono ?_; rintro e w' ⟨rfl, hb⟩; replace HM := Zb (HM.out.call hb); clear hb))
 go_ret
 exact ⟨rfl, Own.fin HM⟩
theorem ind_d (n : Nat) (hn : n < 256) (t b : Tx) (ht : Yh n = t) (hb : b.length ≤ 2) (lt : t.length ≤ 16) (h1 : (t == [69, 88, 32, 68, 69, 44, 72, 76]) = false) (h2 : (t == [74, 80, 32, 40, 72, 76, 41]) = false) (h3 : Jh t [40, 72, 76, 41] = false) (h4 : Jh t [72, 76] = true) (w : World) : CB 41 #[.int .u8 (n : Int), .string ⟨b.toArray⟩] w (.string ⟨(Zv t [72, 76] b).toArray⟩) := by
 have HP := Zb (YT n hn t ht)
 have HH1 := Zb (Jc t [40, 72, 76, 41] false h3 (by omega) (by decide) (by decide))
 have HH2 := Zb (Jc t [72, 76] true h4 (by omega) (by decide) (by decide))
 have HR : Hid (∀ w, Calls Tryz.prog 42 #[.string ⟨t.toArray⟩, .string ⟨#[72, 76]⟩, .string ⟨(b).toArray⟩] w fun e w' => e = .returned (.string ⟨(Zv t [72, 76] (b)).toArray⟩) ∧ Below w.heap.size w w') := jE t [72, 76] (b) (by omega) (by decide) (by decide) (by omega)
 obtain ⟨z, hz⟩ : ∃ z, z = Zv t [72, 76] (b) := ⟨_, rfl⟩
 rw [← hz] at HR
 rw [← hz]
 clear hz
 clear ht
 have HM := Zb (Own.start w)
 go_enter Tryz.func41, Tryz.ntmps41
 go_wp2_with (first | (go_at_call 37; (with_reducible refine (HP.out _).mono ?_); rintro e w' ⟨rfl, hb⟩; replace HM := Zb (HM.out.call hb); clear hb) | (go_at_call 21; (first | (with_reducible refine (HH1.out _).mono ?_) | (with_reducible refine (HH2.out _).mono ?_)); rintro e w' ⟨rfl, hb⟩; replace HM := Zb (HM.out.call hb); clear hb) | (go_at_call 42; (with_reducible refine (HR.out _).mono ?_); rintro e w' ⟨rfl, hb⟩; replace HM := Zb (HM.out.call hb); clear hb))
 go_ret
 exact ⟨rfl, Own.fin HM⟩
theorem ind_e (n : Nat) (hn : n < 256) (t b : Tx) (ht : Yh n = t) (hb : b.length ≤ 2) (lt : t.length ≤ 16) (h1 : (t == [69, 88, 32, 68, 69, 44, 72, 76]) = false) (h2 : (t == [74, 80, 32, 40, 72, 76, 41]) = false) (h3 : Jh t [40, 72, 76, 41] = false) (h4 : Jh t [72, 76] = false) (h5 : (Zl t 32).length < 2) (w : World) : CB 41 #[.int .u8 (n : Int), .string ⟨b.toArray⟩] w (.string ⟨(t).toArray⟩) := by
 have HP := Zb (YT n hn t ht)
 have HH1 := Zb (Jc t [40, 72, 76, 41] false h3 (by omega) (by decide) (by decide))
 have HH2 := Zb (Jc t [72, 76] false h4 (by omega) (by decide) (by decide))
 have HS : Hid (∀ w, Calls Tryz.prog 80 #[.string ⟨t.toArray⟩, .int .u8 32] w fun e w' => ∃ v, e = .returned v ∧ Z0 w' v (Zl t 32) ∧ Below w.heap.size w w') := Ya t 32 32 rfl (by omega)
 obtain ⟨L, hL⟩ : ∃ L, L = Zl t 32 := ⟨_, rfl⟩
 rw [← hL] at HS
 obtain ⟨N, hN⟩ : ∃ N, N = L.length := ⟨_, rfl⟩
 have n2 : (L.length : Int) < 2 := by rw [← hL] at h5; omega
 clear h5 hN hL
 clear ht
 have HM := Zb (Own.start w)
 go_enter Tryz.func41, Tryz.ntmps41
 go_wp2_with (first | (go_at_call 37; (with_reducible refine (HP.out _).mono ?_); rintro e w' ⟨rfl, hb⟩; replace HM := Zb (HM.out.call hb); clear hb) | (go_at_call 21; (first | (with_reducible refine (HH1.out _).mono ?_) | (with_reducible refine (HH2.out _).mono ?_)); rintro e w' ⟨rfl, hb⟩; replace HM := Zb (HM.out.call hb); clear hb) | (go_at_call 80; (with_reducible refine (HS.out _).mono ?_); rintro e w2 ⟨v, rfl, ht, hb⟩; obtain ⟨g, cap, rfl, hc⟩ := ht; have C1 := Zb hc; clear hc; replace HM := Zb (HM.out.call hb); clear hb))
 go_ret
 exact ⟨rfl, Own.fin HM⟩
theorem Zix (Q : List Tx) (k : Nat) (hk : k < Q.length) : Q.drop k = sg Q k :: Q.drop (k + 1) := by
 rw [List.drop_eq_getElem_cons hk, sg, List.getD_eq_getElem?_getD, List.getElem?_eq_getElem hk]
 rfl
theorem ind_f (n : Nat) (hn : n < 256) (t b : Tx) (ht : Yh n = t) (hb : b.length ≤ 2) (lt : t.length ≤ 16) (h1 : (t == [69, 88, 32, 68, 69, 44, 72, 76]) = false) (h2 : (t == [74, 80, 32, 40, 72, 76, 41]) = false) (h3 : Jh t [40, 72, 76, 41] = false) (h4 : Jh t [72, 76] = false) (h5 : ¬ (Zl t 32).length < 2) (w : World) : CB 41 #[.int .u8 (n : Int), .string ⟨b.toArray⟩] w (.string ⟨(YG b 0 (sg (Zl t 32) 0 ++ [32]) (Zl (sg (Zl t 32) 1) 44)).toArray⟩) := by
 have HP := Zb (YT n hn t ht)
 have hw := rW_len n hn
 have hp := rP_len n hn
 rw [rP, rW, ht] at hp
 rw [rW, ht] at hw
 have HH1 := Zb (Jc t [40, 72, 76, 41] false h3 (by omega) (by decide) (by decide))
 have HH2 := Zb (Jc t [72, 76] false h4 (by omega) (by decide) (by decide))
 have HS : Hid (∀ w, Calls Tryz.prog 80 #[.string ⟨t.toArray⟩, .int .u8 32] w fun e w' => ∃ v, e = .returned v ∧ Z0 w' v (Zl t 32) ∧ Below w.heap.size w w') := Ya t 32 32 rfl (by omega)
 obtain ⟨L, hL⟩ : ∃ L, L = Zl t 32 := ⟨_, rfl⟩
 rw [← hL] at HS hw hp h5
 rw [← hL]
 obtain ⟨hw1, -, lw0, lw1⟩ := hw
 obtain ⟨hp1, lp⟩ := hp
 have HN : Hid (2 ≤ L.length) := by show _ ≤ _; omega
 obtain ⟨N, hN⟩ : ∃ N, L.length = N := ⟨_, rfl⟩
 have HN2 := Zb hN
 have n2 : (2 : Int) ≤ (N : Int) := by omega
 have n3 : (1 : Int) < (N : Int) := by omega
 have n4 : (0 : Int) < (N : Int) := by omega
 obtain ⟨s0, hs0⟩ : ∃ s0, sg L 0 = s0 := ⟨_, rfl⟩
 obtain ⟨s1, hs1⟩ : ∃ s1, sg L 1 = s1 := ⟨_, rfl⟩
 have HS0 := Zb hs0
 have HS1 := Zb hs1
 rw [hs0] at lw0 ⊢
 rw [hs1] at lw1 hp1 lp ⊢
 have HS2 : Hid (∀ w, Calls Tryz.prog 80 #[.string ⟨s1.toArray⟩, .int .u8 44] w fun e w' => ∃ v, e = .returned v ∧ Z0 w' v (Zl s1 44) ∧ Below w.heap.size w w') := Ya s1 44 44 rfl (by omega)
 obtain ⟨Q, hQ⟩ : ∃ Q, Q = Zl s1 44 := ⟨_, rfl⟩
 rw [← hQ] at HS2 hp1 lp
 rw [← hQ]
 obtain ⟨M, hM⟩ : ∃ M, Q.length = M := ⟨_, rfl⟩
 have HK := Zb hM
 have LP := Zb lp
 have m4 : M ≤ 3 := by omega
 clear h5 hN hL hM hQ hp1 lp hw1 hs0 hs1 ht
 have HM := Zb (Own.start w)
 go_enter Tryz.func41, Tryz.ntmps41
 go_wp2_with (first | (go_at_call 37; (with_reducible refine (HP.out _).mono ?_); rintro e w' ⟨rfl, hb⟩; replace HM := Zb (HM.out.call hb); clear hb) | (go_at_call 21; (first | (with_reducible refine (HH1.out _).mono ?_) | (with_reducible refine (HH2.out _).mono ?_)); rintro e w' ⟨rfl, hb⟩; replace HM := Zb (HM.out.call hb); clear hb) | (go_at_call 80; (with_reducible refine (HS.out _).mono ?_); rintro e w2 ⟨v, rfl, ht, hb⟩; obtain ⟨g, cap, rfl, hc⟩ := ht; have c0 := hc 0 (by have h := HN.out; omega); have c1 := hc 1 (by have h := HN.out; omega); rw [HS0.out] at c0; rw [HS1.out] at c1; clear hc; rw [HN2.out]; replace HM := Zb (HM.out.call hb); clear hb) | (go_at_call 80; (with_reducible refine (HS2.out _).mono ?_); rintro e w3 ⟨v, rfl, ht, hb⟩; obtain ⟨g2, cap2, rfl, hc⟩ := ht; have C2 := Zb hc; clear hc; rw [HK.out]; have d0 := (hb.cell (block_lt_of_cell c0)).trans c0; clear c0 c1; have c0 := d0; clear d0; replace HM := Zb (HM.out.call hb); clear hb) | ((with_reducible apply ZQ); exact rfl; exact rfl; exact rfl; (first | assumption | decide | ((try simp only [List.length_append, List.length_cons, List.length_nil]); omega)); exact rfl))
 obtain ⟨o0, ho0⟩ : ∃ o0, s0 ++ [32] = o0 := ⟨_, rfl⟩
 have HO0 := Zb ho0
 have lo0 : o0.length ≤ 17 := by rw [← ho0]; simp only [List.length_append, List.length_cons, List.length_nil]; omega
 rw [ho0]
 clear ho0 c0
 go_loopw [8, 49] (fun ot i wr => ∃ (k : Nat) (o : Tx), k ≤ M ∧ i = .int .i64 k ∧ ot = .string ⟨o.toArray⟩ ∧ o.length ≤ 17 + 30 * k ∧ Hid (YG b k o (Q.drop k) = YG b 0 o0 Q) ∧ Hid (∀ j < M, wr.cell? ⟨g2, j, none⟩ = some (.string ⟨(sg Q j).toArray⟩)) ∧ Hid (Own w wr [])) (fun _ i _ => M - (intOf i).toNat)
 case atStart => exact ⟨0, o0, by omega, rfl, rfl, by omega, rfl, by rw [← HK.out]; exact C2.out, HM⟩
 case round =>
  clear HM C2
  obtain ⟨k, o, hk, rfl, rfl, lo, HO, HC, HM⟩ := hrel
  by_cases hlt : k < M
  ·have hlt' : (k : Int) < (M : Int) := by omega
   have HD : Hid (Q.drop k = sg Q k :: Q.drop (k + 1)) := Zix Q k (by rw [HK.out]; exact hlt)
   have ck := HC.out k hlt
   have lx0 : (sg Q k).length ≤ 16 := LP.out k (by omega)
   obtain ⟨x, hx⟩ : ∃ x, sg Q k = x := ⟨_, rfl⟩
   rw [hx] at HD ck lx0
   clear hx
   by_cases hk0 : k = 0
   ·by_cases hX1 : x = [72]
    ·have hX := hX1
     have HX : x = [72] := hX
     subst HX
     have HJ : Hid (YG b (k + 1) ((o) ++ (b ++ [72])) (Q.drop (k + 1)) = YG b 0 o0 Q) := by
      show _ = _
      rw [← HO.out, HD.out, YG, show ZaE b [72] = b ++ [72] from by rw [ZaE, if_pos (.inl rfl)]]
      rw [if_neg (by omega)]
     have k0 : ¬ (0 : Int) < (k : Int) := by omega
     clear hk0
     have lx : (b ++ [72]).length ≤ 20 := by (try simp only [List.length_append, List.length_cons, List.length_nil]); omega
     go_wp2_with (first | ((with_reducible apply ZQ); exact rfl; exact rfl; exact rfl; (first | assumption | decide | ((try simp only [List.length_append, List.length_cons, List.length_nil]); omega)); exact rfl))
     go_roundw
     case rel =>
      refine ⟨k + 1, (o) ++ (b ++ [72]), by omega, by go_num, ?_, ?_, HJ, ?_, HM⟩
      ·(try simp only [List.append_assoc, List.cons_append, List.nil_append])
      ·simp only [List.length_append, List.length_cons, List.length_nil] at lx ⊢; omega
      ·exact HC
     case measure => simp [intOf]; omega
    ·by_cases hX2 : x = [76]
     ·have hX := hX2
      have HX : x = [76] := hX
      subst HX
      have HJ : Hid (YG b (k + 1) ((o) ++ (b ++ [76])) (Q.drop (k + 1)) = YG b 0 o0 Q) := by
       show _ = _
       rw [← HO.out, HD.out, YG, show ZaE b [76] = b ++ [76] from by rw [ZaE, if_pos (.inr rfl)]]
       rw [if_neg (by omega)]
      have k0 : ¬ (0 : Int) < (k : Int) := by omega
      clear hk0
      have lx : (b ++ [76]).length ≤ 20 := by (try simp only [List.length_append, List.length_cons, List.length_nil]); omega
      go_wp2_with (first | ((with_reducible apply ZQ); exact rfl; exact rfl; exact rfl; (first | assumption | decide | ((try simp only [List.length_append, List.length_cons, List.length_nil]); omega)); exact rfl))
      go_roundw
      case rel =>
       refine ⟨k + 1, (o) ++ (b ++ [76]), by omega, by go_num, ?_, ?_, HJ, ?_, HM⟩
       ·(try simp only [List.append_assoc, List.cons_append, List.nil_append])
       ·simp only [List.length_append, List.length_cons, List.length_nil] at lx ⊢; omega
       ·exact HC
      case measure => simp [intOf]; omega
     ·skip
      have g1 : (x == [72]) = false := by rw [beq_eq_false_iff_ne]; exact hX1
      have g2 : (x == [76]) = false := by rw [beq_eq_false_iff_ne]; exact hX2
      have HJ : Hid (YG b (k + 1) ((o) ++ (x)) (Q.drop (k + 1)) = YG b 0 o0 Q) := by
       show _ = _
       rw [← HO.out, HD.out, YG, show ZaE b x = x from by rw [ZaE, if_neg (fun h => h.elim hX1 hX2)]]
       rw [if_neg (by omega)]
      have k0 : ¬ (0 : Int) < (k : Int) := by omega
      clear hk0
      have lx : (x).length ≤ 20 := by (try simp only [List.length_append, List.length_cons, List.length_nil]); omega
      go_wp2_with (first | ((with_reducible apply ZQ); exact rfl; exact rfl; exact rfl; (first | assumption | decide | ((try simp only [List.length_append, List.length_cons, List.length_nil]); omega)); exact rfl))
      go_roundw
      case rel =>
       refine ⟨k + 1, (o) ++ (x), by omega, by go_num, ?_, ?_, HJ, ?_, HM⟩
       ·(try simp only [List.append_assoc, List.cons_append, List.nil_append])
       ·simp only [List.length_append, List.length_cons, List.length_nil] at lx ⊢; omega
       ·exact HC
      case measure => simp [intOf]; omega
   ·by_cases hX1 : x = [72]
    ·have hX := hX1
     have HX : x = [72] := hX
     subst HX
     have HJ : Hid (YG b (k + 1) ((o ++ [44]) ++ (b ++ [72])) (Q.drop (k + 1)) = YG b 0 o0 Q) := by
      show _ = _
      rw [← HO.out, HD.out, YG, show ZaE b [72] = b ++ [72] from by rw [ZaE, if_pos (.inl rfl)]]
      rw [if_pos (by omega)]
     have k0 : (0 : Int) < (k : Int) := by omega
     clear hk0
     have lx : (b ++ [72]).length ≤ 20 := by (try simp only [List.length_append, List.length_cons, List.length_nil]); omega
     go_wp2_with (first | ((with_reducible apply ZQ); exact rfl; exact rfl; exact rfl; (first | assumption | decide | ((try simp only [List.length_append, List.length_cons, List.length_nil]); omega)); exact rfl))
     go_roundw
     case rel =>
      refine ⟨k + 1, (o ++ [44]) ++ (b ++ [72]), by omega, by go_num, ?_, ?_, HJ, ?_, HM⟩
      ·(try simp only [List.append_assoc, List.cons_append, List.nil_append])
      ·simp only [List.length_append, List.length_cons, List.length_nil] at lx ⊢; omega
      ·exact HC
     case measure => simp [intOf]; omega
    ·by_cases hX2 : x = [76]
     ·have hX := hX2
      have HX : x = [76] := hX
      subst HX
      have HJ : Hid (YG b (k + 1) ((o ++ [44]) ++ (b ++ [76])) (Q.drop (k + 1)) = YG b 0 o0 Q) := by
       show _ = _
       rw [← HO.out, HD.out, YG, show ZaE b [76] = b ++ [76] from by rw [ZaE, if_pos (.inr rfl)]]
       rw [if_pos (by omega)]
      have k0 : (0 : Int) < (k : Int) := by omega
      clear hk0
      have lx : (b ++ [76]).length ≤ 20 := by (try simp only [List.length_append, List.length_cons, List.length_nil]); omega
      go_wp2_with (first | ((with_reducible apply ZQ); exact rfl; exact rfl; exact rfl; (first | assumption | decide | ((try simp only [List.length_append, List.length_cons, List.length_nil]); omega)); exact rfl))
      go_roundw
      case rel =>
       refine ⟨k + 1, (o ++ [44]) ++ (b ++ [76]), by omega, by go_num, ?_, ?_, HJ, ?_, HM⟩
       ·(try simp only [List.append_assoc, List.cons_append, List.nil_append])
       ·simp only [List.length_append, List.length_cons, List.length_nil] at lx ⊢; omega
       ·exact HC
      case measure => simp [intOf]; omega
     ·skip
      have g1 : (x == [72]) = false := by rw [beq_eq_false_iff_ne]; exact hX1
      have g2 : (x == [76]) = false := by rw [beq_eq_false_iff_ne]; exact hX2
      have HJ : Hid (YG b (k + 1) ((o ++ [44]) ++ (x)) (Q.drop (k + 1)) = YG b 0 o0 Q) := by
       show _ = _
       rw [← HO.out, HD.out, YG, show ZaE b x = x from by rw [ZaE, if_neg (fun h => h.elim hX1 hX2)]]
       rw [if_pos (by omega)]
      have k0 : (0 : Int) < (k : Int) := by omega
      clear hk0
      have lx : (x).length ≤ 20 := by (try simp only [List.length_append, List.length_cons, List.length_nil]); omega
      go_wp2_with (first | ((with_reducible apply ZQ); exact rfl; exact rfl; exact rfl; (first | assumption | decide | ((try simp only [List.length_append, List.length_cons, List.length_nil]); omega)); exact rfl))
      go_roundw
      case rel =>
       refine ⟨k + 1, (o ++ [44]) ++ (x), by omega, by go_num, ?_, ?_, HJ, ?_, HM⟩
       ·(try simp only [List.append_assoc, List.cons_append, List.nil_append])
       ·simp only [List.length_append, List.length_cons, List.length_nil] at lx ⊢; omega
       ·exact HC
      case measure => simp [intOf]; omega
  ·obtain rfl : k = M := by omega
   have HE : Hid (o = YG b 0 o0 Q) := by
    show _ = _
    rw [← HO.out, ← HK.out, List.drop_length]; rfl
   go_wp2_with fail
   go_ret
   exact ⟨by rw [HO0.out, ← HE.out]; rfl, Own.fin HM⟩
theorem Ub (n : Nat) (hn : n < 256) (b : Tx) (hb : b.length ≤ 2) (w : World) : CB 41 #[.int .u8 (n : Int), .string ⟨b.toArray⟩] w (.string ⟨(JB n b).toArray⟩) := by
 obtain ⟨t, ht⟩ : ∃ t, Yh n = t := ⟨_, rfl⟩
 have lt : t.length ≤ 16 := by rw [← ht]; exact len_plain n hn
 rw [JB, ht]
 have neg : ∀ (a b : Tx), a ≠ b → (a == b) = false := fun a b h => by rw [beq_eq_false_iff_ne]; exact h
 show Calls Tryz.prog 41 _ w fun e w' => e = .returned (.string ⟨(if t = [69, 88, 32, 68, 69, 44, 72, 76] then t else if t = [74, 80, 32, 40, 72, 76, 41] then [74, 80, 32, 40] ++ b ++ [41] else if Jh t [40, 72, 76, 41] then Zv t [40, 72, 76, 41] ([40] ++ b ++ [43, 100, 41]) else if Jh t [72, 76] then Zv t [72, 76] b else if (Zl t 32).length < 2 then t else YG b 0 (sg (Zl t 32) 0 ++ [32]) (Zl (sg (Zl t 32) 1) 44)).toArray⟩) ∧ Below w.heap.size w w'
 by_cases h1 : t = [69, 88, 32, 68, 69, 44, 72, 76]
 ·rw [if_pos h1]; exact ind_a n hn t b ht hb lt (by rw [h1]; rfl) w
 ·rw [if_neg h1]
  by_cases h2 : t = [74, 80, 32, 40, 72, 76, 41]
  ·rw [if_pos h2, List.append_assoc]; exact ind_b n hn t b ht hb lt (neg _ _ h1) (by rw [h2]; rfl) w
  ·rw [if_neg h2]
   by_cases h3 : Jh t [40, 72, 76, 41] = true
   ·rw [if_pos h3, List.append_assoc]; exact ind_c n hn t b ht hb lt (neg _ _ h1) (neg _ _ h2) h3 w
   ·rw [if_neg h3]
    by_cases h4 : Jh t [72, 76] = true
    ·rw [if_pos h4]; exact ind_d n hn t b ht hb lt (neg _ _ h1) (neg _ _ h2) (by simpa using h3) h4 w
    ·rw [if_neg h4]
     by_cases h5 : (Zl t 32).length < 2
     ·rw [if_pos h5]; exact ind_e n hn t b ht hb lt (neg _ _ h1) (neg _ _ h2) (by simpa using h3) (by simpa using h4) h5 w
     ·rw [if_neg h5]; exact ind_f n hn t b ht hb lt (neg _ _ h1) (neg _ _ h2) (by simpa using h3) (by simpa using h4) h5 w
end
end Go.Proofs.YtgdeeiimkhjfiaaGreatDoor
