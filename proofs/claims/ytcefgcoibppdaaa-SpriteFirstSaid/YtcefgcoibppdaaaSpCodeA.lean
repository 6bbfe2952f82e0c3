/-
  The landed code's scale, Height, tableAt, first and column.
-/
import Derived.Test.YtcefgcoibppdaaaSpSpec
import Derived.Test.YtcefgcoibppdaaaTiCode0
import Derived.Test.YtcefgcoibppdaaaVRegs
import Derived.Test.YtcefgcoibppdaaaQuiet
namespace Go.Proofs.Ytcefgcoibppdaaa
open Go.RowKit

theorem sp_land2 : ∀ a, a < 256 → Nat.land a 2 = 2 * (a / 2 % 2) := by decide +kernel
theorem sp_land4 : ∀ a, a < 256 → Nat.land a 4 = 4 * (a / 4 % 2) := by decide +kernel
theorem sp_land8 : ∀ a, a < 256 → Nat.land a 8 = 8 * (a / 8 % 2) := by decide +kernel
theorem sp_land126 : ∀ a, a < 256 → Nat.land a 126 = a / 2 % 64 * 2 := by decide +kernel
theorem sp_and1 (r : Nat) (h : r < 256) : bits .and .u8 (r : Int) 1 = ((r % 2 : Nat) : Int) := (u8_and_nat r 1 h (by decide)).trans (by rw [Nat.and_one_is_mod])
theorem sp_and2 (r : Nat) (h : r < 256) : bits .and .u8 (r : Int) 2 = ((2 * (r / 2 % 2) : Nat) : Int) := (u8_and_nat r 2 h (by decide)).trans (congrArg _ (sp_land2 r h))
theorem sp_and4 (r : Nat) (h : r < 256) : bits .and .u8 (r : Int) 4 = ((4 * (r / 4 % 2) : Nat) : Int) := (u8_and_nat r 4 h (by decide)).trans (congrArg _ (sp_land4 r h))
theorem sp_and8 (r : Nat) (h : r < 256) : bits .and .u8 (r : Int) 8 = ((8 * (r / 8 % 2) : Nat) : Int) := (u8_and_nat r 8 h (by decide)).trans (congrArg _ (sp_land8 r h))
theorem sp_and126 (r : Nat) (h : r < 256) : bits .and .u8 (r : Int) 126 = ((r / 2 % 64 * 2 : Nat) : Int) := (u8_and_nat r 126 h (by decide)).trans (congrArg _ (sp_land126 r h))
theorem scale_at (r0 r1 r2 r3 r4 r5 r6 r7 r8 r9 r10 : Nat) (b1 : r1 < 256) (s : Nat) (hs : Hid (1 + r1 % 2 = s)) (w : World) :
    Calls Try.prog 19 #[regsV r0 r1 r2 r3 r4 r5 r6 r7 r8 r9 r10] w fun e w' => e = .returned (.int .i64 (s : Int)) ∧ Below w.heap.size w w' := by
  have HM := Lib.hid (Own.start w)
  have tg1 : Hid True := trivial
  have tg2 : Hid True := trivial
  have tg3 : Hid True := trivial
  have tg4 : Hid True := trivial
  have e1 := sp_and1 r1 b1
  have es := hs.out
  rcases (show r1 % 2 = 0 ∨ r1 % 2 = 1 by omega) with k | k
  all_goals
    rw [k] at e1 es
    subst es
    clear hs k
    go_enter Try.func19, Try.ntmps19
    go_wp2_with (first | ((with_reducible apply own_box HM); exact rfl; (conv => lhs; whnf); exact rfl; exact rfl; (first | (clear tg1; intro w' g1 HM') | (clear tg2; intro w' g2 HM') | (clear tg3; intro w' g3 HM') | (clear tg4; intro w' g4 HM') | intro w' g' HM'); clear HM; have HM := HM'; clear HM'; all_goals skip) | ((with_reducible apply own_cell HM); exact rfl; exact rfl; (first | (with_reducible exact one8) | (with_reducible exact oneInt)); (first | with_reducible exact .z | with_reducible exact .s .z | with_reducible exact .s (.s .z) | with_reducible exact .s (.s (.s .z)) | with_reducible exact .s (.s (.s (.s .z))) | with_reducible exact .s (.s (.s (.s (.s .z))))); (focus repeat' (first | with_reducible exact .z | with_reducible apply Drop.s)); exact rfl; all_goals skip) | ((with_reducible apply own_load HM); exact rfl; exact rfl; (first | (with_reducible exact agg11)); (first | with_reducible exact .z | with_reducible exact .s .z | with_reducible exact .s (.s .z) | with_reducible exact .s (.s (.s .z)) | with_reducible exact .s (.s (.s (.s .z))) | with_reducible exact .s (.s (.s (.s (.s .z))))); (focus repeat' (first | with_reducible exact .z | with_reducible apply Drop.s)); (focus repeat' (first | with_reducible exact .z | with_reducible apply Take.s)); exact rfl; all_goals skip) | ((with_reducible apply own_store HM); exact rfl; exact rfl; (conv => lhs; whnf); exact rfl; (first | with_reducible exact .z | with_reducible exact .s .z | with_reducible exact .s (.s .z) | with_reducible exact .s (.s (.s .z)) | with_reducible exact .s (.s (.s (.s .z))) | with_reducible exact .s (.s (.s (.s (.s .z))))); (focus repeat' (first | with_reducible exact .z | with_reducible apply Over.p | with_reducible apply Over.s)); (first | with_reducible exact .z | with_reducible exact .s .z | with_reducible exact .s (.s .z) | with_reducible exact .s (.s (.s .z)) | with_reducible exact .s (.s (.s (.s .z))) | with_reducible exact .s (.s (.s (.s (.s .z))))); (first | (with_reducible exact (agg11).size) | (with_reducible exact (one8).size) | (with_reducible exact (oneInt).size)); exact rfl; exact rfl; exact rfl; exact rfl; intro w' HM'; clear HM; have HM := HM'; clear HM'; all_goals skip))
    go_ret
    exact ⟨rfl, Own.fin HM⟩
theorem height_at (r0 r1 r2 r3 r4 r5 r6 r7 r8 r9 r10 : Nat) (b1 : r1 < 256) (h : Nat) (hh : Hid (spH r1 = h)) (w : World) :
    Calls Try.prog 10 #[regsV r0 r1 r2 r3 r4 r5 r6 r7 r8 r9 r10] w fun e w' => e = .returned (.int .i64 (h : Int)) ∧ Below w.heap.size w w' := by
  have HM := Lib.hid (Own.start w)
  have tg1 : Hid True := trivial
  have tg2 : Hid True := trivial
  have tg3 : Hid True := trivial
  have tg4 : Hid True := trivial
  have e2 := sp_and2 r1 b1
  have eh := hh.out
  unfold spH at eh
  have H1 := Lib.hid b1
  rcases (show r1 / 2 % 2 = 0 ∨ r1 / 2 % 2 = 1 by omega) with k | k <;> rcases (show r1 % 2 = 0 ∨ r1 % 2 = 1 by omega) with k1 | k1
  · have HS : Hid (1 + r1 % 2 = 1) := Lib.hid (by rw [k1])
    rw [k] at e2 eh
    rw [k1] at eh
    subst eh
    clear hh k k1 b1
    go_enter Try.func10, Try.ntmps10
    go_wp2_with (first | ((with_reducible apply own_box HM); exact rfl; (conv => lhs; whnf); exact rfl; exact rfl; (first | (clear tg1; intro w' g1 HM') | (clear tg2; intro w' g2 HM') | (clear tg3; intro w' g3 HM') | (clear tg4; intro w' g4 HM') | intro w' g' HM'); clear HM; have HM := HM'; clear HM'; all_goals skip) | ((with_reducible apply own_cell HM); exact rfl; exact rfl; (first | (with_reducible exact one8) | (with_reducible exact oneInt)); (first | with_reducible exact .z | with_reducible exact .s .z | with_reducible exact .s (.s .z) | with_reducible exact .s (.s (.s .z)) | with_reducible exact .s (.s (.s (.s .z))) | with_reducible exact .s (.s (.s (.s (.s .z))))); (focus repeat' (first | with_reducible exact .z | with_reducible apply Drop.s)); exact rfl; all_goals skip) | ((with_reducible apply own_load HM); exact rfl; exact rfl; (first | (with_reducible exact agg11)); (first | with_reducible exact .z | with_reducible exact .s .z | with_reducible exact .s (.s .z) | with_reducible exact .s (.s (.s .z)) | with_reducible exact .s (.s (.s (.s .z))) | with_reducible exact .s (.s (.s (.s (.s .z))))); (focus repeat' (first | with_reducible exact .z | with_reducible apply Drop.s)); (focus repeat' (first | with_reducible exact .z | with_reducible apply Take.s)); exact rfl; all_goals skip) | ((with_reducible apply own_store HM); exact rfl; exact rfl; (conv => lhs; whnf); exact rfl; (first | with_reducible exact .z | with_reducible exact .s .z | with_reducible exact .s (.s .z) | with_reducible exact .s (.s (.s .z)) | with_reducible exact .s (.s (.s (.s .z))) | with_reducible exact .s (.s (.s (.s (.s .z))))); (focus repeat' (first | with_reducible exact .z | with_reducible apply Over.p | with_reducible apply Over.s)); (first | with_reducible exact .z | with_reducible exact .s .z | with_reducible exact .s (.s .z) | with_reducible exact .s (.s (.s .z)) | with_reducible exact .s (.s (.s (.s .z))) | with_reducible exact .s (.s (.s (.s (.s .z))))); (first | (with_reducible exact (agg11).size) | (with_reducible exact (one8).size) | (with_reducible exact (oneInt).size)); exact rfl; exact rfl; exact rfl; exact rfl; intro w' HM'; clear HM; have HM := HM'; clear HM'; all_goals skip) | (go_at_call 19; (with_reducible refine (scale_at r0 r1 r2 r3 r4 r5 r6 r7 r8 r9 r10 H1.out 1 HS _).mono ?_); rintro e w' ⟨rfl, hb⟩; have HM' := Lib.hid (HM.out.call hb); clear HM hb; have HM := HM'; clear HM'))
    go_ret
    exact ⟨rfl, Own.fin HM⟩
  · have HS : Hid (1 + r1 % 2 = 2) := Lib.hid (by rw [k1])
    rw [k] at e2 eh
    rw [k1] at eh
    subst eh
    clear hh k k1 b1
    go_enter Try.func10, Try.ntmps10
    go_wp2_with (first | ((with_reducible apply own_box HM); exact rfl; (conv => lhs; whnf); exact rfl; exact rfl; (first | (clear tg1; intro w' g1 HM') | (clear tg2; intro w' g2 HM') | (clear tg3; intro w' g3 HM') | (clear tg4; intro w' g4 HM') | intro w' g' HM'); clear HM; have HM := HM'; clear HM'; all_goals skip) | ((with_reducible apply own_cell HM); exact rfl; exact rfl; (first | (with_reducible exact one8) | (with_reducible exact oneInt)); (first | with_reducible exact .z | with_reducible exact .s .z | with_reducible exact .s (.s .z) | with_reducible exact .s (.s (.s .z)) | with_reducible exact .s (.s (.s (.s .z))) | with_reducible exact .s (.s (.s (.s (.s .z))))); (focus repeat' (first | with_reducible exact .z | with_reducible apply Drop.s)); exact rfl; all_goals skip) | ((with_reducible apply own_load HM); exact rfl; exact rfl; (first | (with_reducible exact agg11)); (first | with_reducible exact .z | with_reducible exact .s .z | with_reducible exact .s (.s .z) | with_reducible exact .s (.s (.s .z)) | with_reducible exact .s (.s (.s (.s .z))) | with_reducible exact .s (.s (.s (.s (.s .z))))); (focus repeat' (first | with_reducible exact .z | with_reducible apply Drop.s)); (focus repeat' (first | with_reducible exact .z | with_reducible apply Take.s)); exact rfl; all_goals skip) | ((with_reducible apply own_store HM); exact rfl; exact rfl; (conv => lhs; whnf); exact rfl; (first | with_reducible exact .z | with_reducible exact .s .z | with_reducible exact .s (.s .z) | with_reducible exact .s (.s (.s .z)) | with_reducible exact .s (.s (.s (.s .z))) | with_reducible exact .s (.s (.s (.s (.s .z))))); (focus repeat' (first | with_reducible exact .z | with_reducible apply Over.p | with_reducible apply Over.s)); (first | with_reducible exact .z | with_reducible exact .s .z | with_reducible exact .s (.s .z) | with_reducible exact .s (.s (.s .z)) | with_reducible exact .s (.s (.s (.s .z))) | with_reducible exact .s (.s (.s (.s (.s .z))))); (first | (with_reducible exact (agg11).size) | (with_reducible exact (one8).size) | (with_reducible exact (oneInt).size)); exact rfl; exact rfl; exact rfl; exact rfl; intro w' HM'; clear HM; have HM := HM'; clear HM'; all_goals skip) | (go_at_call 19; (with_reducible refine (scale_at r0 r1 r2 r3 r4 r5 r6 r7 r8 r9 r10 H1.out 2 HS _).mono ?_); rintro e w' ⟨rfl, hb⟩; have HM' := Lib.hid (HM.out.call hb); clear HM hb; have HM := HM'; clear HM'))
    go_ret
    exact ⟨rfl, Own.fin HM⟩
  · have HS : Hid (1 + r1 % 2 = 1) := Lib.hid (by rw [k1])
    rw [k] at e2 eh
    rw [k1] at eh
    subst eh
    clear hh k k1 b1
    go_enter Try.func10, Try.ntmps10
    go_wp2_with (first | ((with_reducible apply own_box HM); exact rfl; (conv => lhs; whnf); exact rfl; exact rfl; (first | (clear tg1; intro w' g1 HM') | (clear tg2; intro w' g2 HM') | (clear tg3; intro w' g3 HM') | (clear tg4; intro w' g4 HM') | intro w' g' HM'); clear HM; have HM := HM'; clear HM'; all_goals skip) | ((with_reducible apply own_cell HM); exact rfl; exact rfl; (first | (with_reducible exact one8) | (with_reducible exact oneInt)); (first | with_reducible exact .z | with_reducible exact .s .z | with_reducible exact .s (.s .z) | with_reducible exact .s (.s (.s .z)) | with_reducible exact .s (.s (.s (.s .z))) | with_reducible exact .s (.s (.s (.s (.s .z))))); (focus repeat' (first | with_reducible exact .z | with_reducible apply Drop.s)); exact rfl; all_goals skip) | ((with_reducible apply own_load HM); exact rfl; exact rfl; (first | (with_reducible exact agg11)); (first | with_reducible exact .z | with_reducible exact .s .z | with_reducible exact .s (.s .z) | with_reducible exact .s (.s (.s .z)) | with_reducible exact .s (.s (.s (.s .z))) | with_reducible exact .s (.s (.s (.s (.s .z))))); (focus repeat' (first | with_reducible exact .z | with_reducible apply Drop.s)); (focus repeat' (first | with_reducible exact .z | with_reducible apply Take.s)); exact rfl; all_goals skip) | ((with_reducible apply own_store HM); exact rfl; exact rfl; (conv => lhs; whnf); exact rfl; (first | with_reducible exact .z | with_reducible exact .s .z | with_reducible exact .s (.s .z) | with_reducible exact .s (.s (.s .z)) | with_reducible exact .s (.s (.s (.s .z))) | with_reducible exact .s (.s (.s (.s (.s .z))))); (focus repeat' (first | with_reducible exact .z | with_reducible apply Over.p | with_reducible apply Over.s)); (first | with_reducible exact .z | with_reducible exact .s .z | with_reducible exact .s (.s .z) | with_reducible exact .s (.s (.s .z)) | with_reducible exact .s (.s (.s (.s .z))) | with_reducible exact .s (.s (.s (.s (.s .z))))); (first | (with_reducible exact (agg11).size) | (with_reducible exact (one8).size) | (with_reducible exact (oneInt).size)); exact rfl; exact rfl; exact rfl; exact rfl; intro w' HM'; clear HM; have HM := HM'; clear HM'; all_goals skip) | (go_at_call 19; (with_reducible refine (scale_at r0 r1 r2 r3 r4 r5 r6 r7 r8 r9 r10 H1.out 1 HS _).mono ?_); rintro e w' ⟨rfl, hb⟩; have HM' := Lib.hid (HM.out.call hb); clear HM hb; have HM := HM'; clear HM'))
    go_ret
    exact ⟨rfl, Own.fin HM⟩
  · have HS : Hid (1 + r1 % 2 = 2) := Lib.hid (by rw [k1])
    rw [k] at e2 eh
    rw [k1] at eh
    subst eh
    clear hh k k1 b1
    go_enter Try.func10, Try.ntmps10
    go_wp2_with (first | ((with_reducible apply own_box HM); exact rfl; (conv => lhs; whnf); exact rfl; exact rfl; (first | (clear tg1; intro w' g1 HM') | (clear tg2; intro w' g2 HM') | (clear tg3; intro w' g3 HM') | (clear tg4; intro w' g4 HM') | intro w' g' HM'); clear HM; have HM := HM'; clear HM'; all_goals skip) | ((with_reducible apply own_cell HM); exact rfl; exact rfl; (first | (with_reducible exact one8) | (with_reducible exact oneInt)); (first | with_reducible exact .z | with_reducible exact .s .z | with_reducible exact .s (.s .z) | with_reducible exact .s (.s (.s .z)) | with_reducible exact .s (.s (.s (.s .z))) | with_reducible exact .s (.s (.s (.s (.s .z))))); (focus repeat' (first | with_reducible exact .z | with_reducible apply Drop.s)); exact rfl; all_goals skip) | ((with_reducible apply own_load HM); exact rfl; exact rfl; (first | (with_reducible exact agg11)); (first | with_reducible exact .z | with_reducible exact .s .z | with_reducible exact .s (.s .z) | with_reducible exact .s (.s (.s .z)) | with_reducible exact .s (.s (.s (.s .z))) | with_reducible exact .s (.s (.s (.s (.s .z))))); (focus repeat' (first | with_reducible exact .z | with_reducible apply Drop.s)); (focus repeat' (first | with_reducible exact .z | with_reducible apply Take.s)); exact rfl; all_goals skip) | ((with_reducible apply own_store HM); exact rfl; exact rfl; (conv => lhs; whnf); exact rfl; (first | with_reducible exact .z | with_reducible exact .s .z | with_reducible exact .s (.s .z) | with_reducible exact .s (.s (.s .z)) | with_reducible exact .s (.s (.s (.s .z))) | with_reducible exact .s (.s (.s (.s (.s .z))))); (focus repeat' (first | with_reducible exact .z | with_reducible apply Over.p | with_reducible apply Over.s)); (first | with_reducible exact .z | with_reducible exact .s .z | with_reducible exact .s (.s .z) | with_reducible exact .s (.s (.s .z)) | with_reducible exact .s (.s (.s (.s .z))) | with_reducible exact .s (.s (.s (.s (.s .z))))); (first | (with_reducible exact (agg11).size) | (with_reducible exact (one8).size) | (with_reducible exact (oneInt).size)); exact rfl; exact rfl; exact rfl; exact rfl; intro w' HM'; clear HM; have HM := HM'; clear HM'; all_goals skip) | (go_at_call 19; (with_reducible refine (scale_at r0 r1 r2 r3 r4 r5 r6 r7 r8 r9 r10 H1.out 2 HS _).mono ?_); rintro e w' ⟨rfl, hb⟩; have HM' := Lib.hid (HM.out.call hb); clear HM hb; have HM := HM'; clear HM'))
    go_ret
    exact ⟨rfl, Own.fin HM⟩
theorem table_at (r0 r1 r2 r3 r4 r5 r6 r7 r8 r9 r10 : Nat) (b5 : r5 < 256) (b : Nat) (hb : Hid (spBase r5 = b)) (w : World) :
    Calls Try.prog 16 #[regsV r0 r1 r2 r3 r4 r5 r6 r7 r8 r9 r10] w fun e w' => e = .returned (.int .i64 (b : Int)) ∧ Below w.heap.size w w' := by
  have HM := Lib.hid (Own.start w)
  have tg1 : Hid True := trivial
  have tg2 : Hid True := trivial
  have tg3 : Hid True := trivial
  have tg4 : Hid True := trivial
  have e1 := sp_and126 r5 b5
  have eb := hb.out
  unfold spBase at eb
  obtain ⟨s, hs⟩ : ∃ s : Nat, r5 / 2 % 64 * 2 = s := ⟨_, rfl⟩
  have s1 : (s : Int) < 128 := by omega
  rw [hs] at e1 eb
  have E : 128 * (s : Int) = (b : Int) := by omega
  clear hs hb eb
  go_enter Try.func16, Try.ntmps16
  go_wp2_with (first | ((with_reducible apply own_box HM); exact rfl; (conv => lhs; whnf); exact rfl; exact rfl; (first | (clear tg1; intro w' g1 HM') | (clear tg2; intro w' g2 HM') | (clear tg3; intro w' g3 HM') | (clear tg4; intro w' g4 HM') | intro w' g' HM'); clear HM; have HM := HM'; clear HM'; all_goals skip) | ((with_reducible apply own_cell HM); exact rfl; exact rfl; (first | (with_reducible exact one8) | (with_reducible exact oneInt)); (first | with_reducible exact .z | with_reducible exact .s .z | with_reducible exact .s (.s .z) | with_reducible exact .s (.s (.s .z)) | with_reducible exact .s (.s (.s (.s .z))) | with_reducible exact .s (.s (.s (.s (.s .z))))); (focus repeat' (first | with_reducible exact .z | with_reducible apply Drop.s)); exact rfl; all_goals skip) | ((with_reducible apply own_load HM); exact rfl; exact rfl; (first | (with_reducible exact agg11)); (first | with_reducible exact .z | with_reducible exact .s .z | with_reducible exact .s (.s .z) | with_reducible exact .s (.s (.s .z)) | with_reducible exact .s (.s (.s (.s .z))) | with_reducible exact .s (.s (.s (.s (.s .z))))); (focus repeat' (first | with_reducible exact .z | with_reducible apply Drop.s)); (focus repeat' (first | with_reducible exact .z | with_reducible apply Take.s)); exact rfl; all_goals skip) | ((with_reducible apply own_store HM); exact rfl; exact rfl; (conv => lhs; whnf); exact rfl; (first | with_reducible exact .z | with_reducible exact .s .z | with_reducible exact .s (.s .z) | with_reducible exact .s (.s (.s .z)) | with_reducible exact .s (.s (.s (.s .z))) | with_reducible exact .s (.s (.s (.s (.s .z))))); (focus repeat' (first | with_reducible exact .z | with_reducible apply Over.p | with_reducible apply Over.s)); (first | with_reducible exact .z | with_reducible exact .s .z | with_reducible exact .s (.s .z) | with_reducible exact .s (.s (.s .z)) | with_reducible exact .s (.s (.s (.s .z))) | with_reducible exact .s (.s (.s (.s (.s .z))))); (first | (with_reducible exact (agg11).size) | (with_reducible exact (one8).size) | (with_reducible exact (oneInt).size)); exact rfl; exact rfl; exact rfl; exact rfl; intro w' HM'; clear HM; have HM := HM'; clear HM'; all_goals skip))
  go_ret
  exact ⟨rfl, Own.fin HM⟩
theorem first_at (y : Nat) (b : y < 256) (t : Int) (ht : Hid (spTop y = t)) (w : World) :
    Calls Try.prog 18 #[.int .u8 (y : Int)] w fun e w' => e = .returned (.int .i64 t) ∧ w = w' := by
  by_cases h : 240 < y + 1
  · obtain rfl : t = (y : Int) + 1 - 256 := by rw [← ht.out]; unfold spTop; rw [if_pos h]
    have h1 : (240 : Int) < (y : Int) + 1 := by omega
    have b' : (y : Int) < 256 := by omega
    clear ht h
    go_enter Try.func18, Try.ntmps18
    go_wp2
    go_ret
    exact ⟨rfl, rfl⟩
  · obtain rfl : t = (y : Int) + 1 := by rw [← ht.out]; unfold spTop; rw [if_neg h]
    have h1 : ¬ (240 : Int) < (y : Int) + 1 := by omega
    have b' : (y : Int) < 256 := by omega
    clear ht h
    go_enter Try.func18, Try.ntmps18
    go_wp2
    go_ret
    exact ⟨rfl, rfl⟩
theorem column_at (a : Option Addr) (n cap : Nat) (xs : Nat → Nat) (r0 r1 r2 r3 r4 r5 r6 r7 r8 r9 r10 i : Nat) (b0 : r0 < 256) (b5 : r5 < 256) (hi : i < 64) (X : Nat) (hX : Hid (mem n xs (spBase r5 + 128 + 2 * i) = X)) (x : Int) (hx : Hid ((X : Int) - 8 * ((r0 / 8 % 2 : Nat) : Int) = x)) (w : World) (hV : ByteRow w a n xs) :
    Calls Try.prog 24 #[.slice a n cap, regsV r0 r1 r2 r3 r4 r5 r6 r7 r8 r9 r10, .int .i64 (i : Int)] w fun e w' => e = .returned (.int .i64 x) ∧ Below w.heap.size w w' := by
  have HM := Lib.hid (Own.start w)
  have tg1 : Hid True := trivial
  have tg2 : Hid True := trivial
  have tg3 : Hid True := trivial
  have tg4 : Hid True := trivial
  have HV := Lib.hid hV
  have H5 := Lib.hid b5
  obtain ⟨b, hb⟩ : ∃ b, Hid (spBase r5 = b) := ⟨_, rfl⟩
  have hb1 : (b : Int) ≤ 16128 := by have := spBase_le r5; rw [hb.out] at this; omega
  have hi1 : (i : Int) < 64 := by omega
  have hk : Hid ((b : Int) + 128 + 2 * (i : Int) = ((b + 128 + 2 * i : Nat) : Int)) := Lib.hid (by omega)
  have hv : Hid (vget n xs (b + 128 + 2 * i) = X) := Lib.hid (by
    have := hX.out
    unfold mem at this
    rw [hb.out, Nat.mod_eq_of_lt (by omega)] at this
    exact this)
  have X8 : X < 256 := hv.out ▸ vget_lt hV _
  have X9 : (X : Int) < 256 := by omega
  have hm : Hid (((b : Int) + 128 + 2 * (i : Int)) % 16384 = ((b + 128 + 2 * i : Nat) : Int)) := Lib.hid (by omega)
  have e8 := sp_and8 r0 b0
  have ex := hx.out
  clear hV b5 hi X8 b0 hX hx
  rcases (show r0 / 8 % 2 = 0 ∨ r0 / 8 % 2 = 1 by omega) with k | k
  all_goals
    rw [k] at e8 ex
    obtain rfl := ex.symm
    clear k
    go_enter Try.func24, Try.ntmps24
    go_wp2_with (first | ((with_reducible apply own_box HM); exact rfl; (conv => lhs; whnf); exact rfl; exact rfl; (first | (clear tg1; intro w' g1 HM') | (clear tg2; intro w' g2 HM') | (clear tg3; intro w' g3 HM') | (clear tg4; intro w' g4 HM') | intro w' g' HM'); clear HM; have HM := HM'; clear HM'; all_goals skip) | ((with_reducible apply own_cell HM); exact rfl; exact rfl; (first | (with_reducible exact one8) | (with_reducible exact oneInt)); (first | with_reducible exact .z | with_reducible exact .s .z | with_reducible exact .s (.s .z) | with_reducible exact .s (.s (.s .z)) | with_reducible exact .s (.s (.s (.s .z))) | with_reducible exact .s (.s (.s (.s (.s .z))))); (focus repeat' (first | with_reducible exact .z | with_reducible apply Drop.s)); exact rfl; all_goals skip) | ((with_reducible apply own_load HM); exact rfl; exact rfl; (first | (with_reducible exact agg11)); (first | with_reducible exact .z | with_reducible exact .s .z | with_reducible exact .s (.s .z) | with_reducible exact .s (.s (.s .z)) | with_reducible exact .s (.s (.s (.s .z))) | with_reducible exact .s (.s (.s (.s (.s .z))))); (focus repeat' (first | with_reducible exact .z | with_reducible apply Drop.s)); (focus repeat' (first | with_reducible exact .z | with_reducible apply Take.s)); exact rfl; all_goals skip) | ((with_reducible apply own_store HM); exact rfl; exact rfl; (conv => lhs; whnf); exact rfl; (first | with_reducible exact .z | with_reducible exact .s .z | with_reducible exact .s (.s .z) | with_reducible exact .s (.s (.s .z)) | with_reducible exact .s (.s (.s (.s .z))) | with_reducible exact .s (.s (.s (.s (.s .z))))); (focus repeat' (first | with_reducible exact .z | with_reducible apply Over.p | with_reducible apply Over.s)); (first | with_reducible exact .z | with_reducible exact .s .z | with_reducible exact .s (.s .z) | with_reducible exact .s (.s (.s .z)) | with_reducible exact .s (.s (.s (.s .z))) | with_reducible exact .s (.s (.s (.s (.s .z))))); (first | (with_reducible exact (agg11).size) | (with_reducible exact (one8).size) | (with_reducible exact (oneInt).size)); exact rfl; exact rfl; exact rfl; exact rfl; intro w' HM'; clear HM; have HM := HM'; clear HM'; all_goals skip) | (go_at_call 16; (with_reducible refine (table_at r0 r1 r2 r3 r4 r5 r6 r7 r8 r9 r10 H5.out b hb _).mono ?_); rintro e w' ⟨rfl, hb⟩; have HM' := Lib.hid (HM.out.call hb); clear HM hb; have HM := HM'; clear HM') | (go_at_call 17; (with_reducible refine (at_at a n cap xs _ (b + 128 + 2 * i) X hm hv _ (HV.out.under (Own.fin HM))).mono ?_); rintro e w' ⟨rfl, rfl⟩))
    go_ret
    exact ⟨by simp, Own.fin HM⟩

end Go.Proofs.Ytcefgcoibppdaaa
