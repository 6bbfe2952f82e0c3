/-
  The document's Height, Base and Top.
-/
import Derived.Test.YtcefgcoibppdaaaSpSpec
import Derived.Test.YtcefgcoibppdaaaTiRef
import Derived.Test.YtcefgcoibppdaaaVRegs
namespace Go.Proofs.Ytcefgcoibppdaaa
open Go.RowKit

theorem rheight_at (r0 r1 r2 r3 r4 r5 r6 r7 r8 r9 r10 : Nat) (b1 : r1 < 256) (h : Nat) (hh : Hid (spH r1 = h)) (w : World) :
    Calls Try.prog 14 #[regsV r0 r1 r2 r3 r4 r5 r6 r7 r8 r9 r10] w fun e w' => e = .returned (.int .i64 (h : Int)) ∧ Below w.heap.size w w' := by
  have HM := Lib.hid (Own.start w)
  have tg1 : Hid True := trivial
  obtain ⟨p, hp⟩ : ∃ p : Nat, r1 / 2 = p := ⟨_, rfl⟩
  obtain ⟨q, hq⟩ : ∃ q : Nat, p % 2 = q := ⟨_, rfl⟩
  obtain ⟨s, hs⟩ : ∃ s : Nat, r1 % 2 = s := ⟨_, rfl⟩
  have P1 : (r1 : Int) / 2 = (p : Int) := by omega
  have P2 : (p : Int) % 2 = (q : Int) := by omega
  have P3 : (r1 : Int) % 2 = (s : Int) := by omega
  have P4 : IntKind.u8.wrap (p : Int) = (p : Int) := by rw [IntKind.wrap_u8]; omega
  have q1 : q < 2 := by omega
  have s1 : s < 2 := by omega
  have E : h = 8 * (1 + q) * (1 + s) := by rw [← hh.out]; unfold spH; rw [hp, hq, hs]
  clear hh hp hq hs
  obtain rfl | rfl : q = 0 ∨ q = 1 := by omega
  all_goals obtain rfl | rfl : s = 0 ∨ s = 1 := by omega
  all_goals
    subst E
    go_enter Try.func14, Try.ntmps14
    go_wp2_with (first | ((with_reducible apply own_box HM); exact rfl; (conv => lhs; whnf); exact rfl; exact rfl; (first | (clear tg1; intro w' g1 HM') | (clear tg2; intro w' g2 HM') | (clear tg3; intro w' g3 HM') | (clear tg4; intro w' g4 HM') | intro w' g' HM'); clear HM; have HM := HM'; clear HM'; all_goals skip) | ((with_reducible apply own_cell HM); exact rfl; exact rfl; (first | (with_reducible exact one8) | (with_reducible exact oneInt)); (first | with_reducible exact .z | with_reducible exact .s .z | with_reducible exact .s (.s .z) | with_reducible exact .s (.s (.s .z)) | with_reducible exact .s (.s (.s (.s .z))) | with_reducible exact .s (.s (.s (.s (.s .z))))); (focus repeat' (first | with_reducible exact .z | with_reducible apply Drop.s)); exact rfl; all_goals skip) | ((with_reducible apply own_load HM); exact rfl; exact rfl; (first | (with_reducible exact agg11)); (first | with_reducible exact .z | with_reducible exact .s .z | with_reducible exact .s (.s .z) | with_reducible exact .s (.s (.s .z)) | with_reducible exact .s (.s (.s (.s .z))) | with_reducible exact .s (.s (.s (.s (.s .z))))); (focus repeat' (first | with_reducible exact .z | with_reducible apply Drop.s)); (focus repeat' (first | with_reducible exact .z | with_reducible apply Take.s)); exact rfl; all_goals skip) | ((with_reducible apply own_store HM); exact rfl; exact rfl; (conv => lhs; whnf); exact rfl; (first | with_reducible exact .z | with_reducible exact .s .z | with_reducible exact .s (.s .z) | with_reducible exact .s (.s (.s .z)) | with_reducible exact .s (.s (.s (.s .z))) | with_reducible exact .s (.s (.s (.s (.s .z))))); (focus repeat' (first | with_reducible exact .z | with_reducible apply Over.p | with_reducible apply Over.s)); (first | with_reducible exact .z | with_reducible exact .s .z | with_reducible exact .s (.s .z) | with_reducible exact .s (.s (.s .z)) | with_reducible exact .s (.s (.s (.s .z))) | with_reducible exact .s (.s (.s (.s (.s .z))))); (first | (with_reducible exact (agg11).size) | (with_reducible exact (one8).size) | (with_reducible exact (oneInt).size)); exact rfl; exact rfl; exact rfl; exact rfl; intro w' HM'; clear HM; have HM := HM'; clear HM'; all_goals skip))
    go_ret
    exact ⟨rfl, Own.fin HM⟩
theorem rbase_at (r0 r1 r2 r3 r4 r5 r6 r7 r8 r9 r10 : Nat) (b5 : r5 < 256) (b : Nat) (hb : Hid (spBase r5 = b)) (w : World) :
    Calls Try.prog 20 #[regsV r0 r1 r2 r3 r4 r5 r6 r7 r8 r9 r10] w fun e w' => e = .returned (.int .i64 (b : Int)) ∧ Below w.heap.size w w' := by
  have HM := Lib.hid (Own.start w)
  have tg1 : Hid True := trivial
  obtain ⟨p, hp⟩ : ∃ p : Nat, r5 / 2 = p := ⟨_, rfl⟩
  obtain ⟨q, hq⟩ : ∃ q : Nat, p % 64 = q := ⟨_, rfl⟩
  obtain ⟨s, hs⟩ : ∃ s : Nat, q * 2 = s := ⟨_, rfl⟩
  have P1 : (r5 : Int) / 2 = (p : Int) := by omega
  have P2 : (p : Int) % 64 = (q : Int) := by omega
  have P3 : (q : Int) * 2 = (s : Int) := by omega
  have P4 : IntKind.u8.wrap (p : Int) = (p : Int) := by rw [IntKind.wrap_u8]; omega
  have s1 : (s : Int) < 128 := by omega
  have q1 : (q : Int) < 64 := by omega
  have E : 128 * (s : Int) = (b : Int) := by have := hb.out; unfold spBase at this; rw [hp, hq, hs] at this; omega
  clear hb hp hq hs
  go_enter Try.func20, Try.ntmps20
  go_wp2_with (first | ((with_reducible apply own_box HM); exact rfl; (conv => lhs; whnf); exact rfl; exact rfl; (first | (clear tg1; intro w' g1 HM') | (clear tg2; intro w' g2 HM') | (clear tg3; intro w' g3 HM') | (clear tg4; intro w' g4 HM') | intro w' g' HM'); clear HM; have HM := HM'; clear HM'; all_goals skip) | ((with_reducible apply own_cell HM); exact rfl; exact rfl; (first | (with_reducible exact one8) | (with_reducible exact oneInt)); (first | with_reducible exact .z | with_reducible exact .s .z | with_reducible exact .s (.s .z) | with_reducible exact .s (.s (.s .z)) | with_reducible exact .s (.s (.s (.s .z))) | with_reducible exact .s (.s (.s (.s (.s .z))))); (focus repeat' (first | with_reducible exact .z | with_reducible apply Drop.s)); exact rfl; all_goals skip) | ((with_reducible apply own_load HM); exact rfl; exact rfl; (first | (with_reducible exact agg11)); (first | with_reducible exact .z | with_reducible exact .s .z | with_reducible exact .s (.s .z) | with_reducible exact .s (.s (.s .z)) | with_reducible exact .s (.s (.s (.s .z))) | with_reducible exact .s (.s (.s (.s (.s .z))))); (focus repeat' (first | with_reducible exact .z | with_reducible apply Drop.s)); (focus repeat' (first | with_reducible exact .z | with_reducible apply Take.s)); exact rfl; all_goals skip) | ((with_reducible apply own_store HM); exact rfl; exact rfl; (conv => lhs; whnf); exact rfl; (first | with_reducible exact .z | with_reducible exact .s .z | with_reducible exact .s (.s .z) | with_reducible exact .s (.s (.s .z)) | with_reducible exact .s (.s (.s (.s .z))) | with_reducible exact .s (.s (.s (.s (.s .z))))); (focus repeat' (first | with_reducible exact .z | with_reducible apply Over.p | with_reducible apply Over.s)); (first | with_reducible exact .z | with_reducible exact .s .z | with_reducible exact .s (.s .z) | with_reducible exact .s (.s (.s .z)) | with_reducible exact .s (.s (.s (.s .z))) | with_reducible exact .s (.s (.s (.s (.s .z))))); (first | (with_reducible exact (agg11).size) | (with_reducible exact (one8).size) | (with_reducible exact (oneInt).size)); exact rfl; exact rfl; exact rfl; exact rfl; intro w' HM'; clear HM; have HM := HM'; clear HM'; all_goals skip))
  go_ret
  exact ⟨rfl, Own.fin HM⟩
theorem rtop_at (y : Nat) (b : y < 256) (t : Int) (ht : Hid (spTop y = t)) (w : World) :
    Calls Try.prog 22 #[.int .u8 (y : Int)] w fun e w' => e = .returned (.int .i64 t) ∧ w = w' := by
  by_cases h : 240 < y + 1
  · obtain rfl : t = (y : Int) + 1 - 256 := by rw [← ht.out]; unfold spTop; rw [if_pos h]
    have h1 : (240 : Int) < (y : Int) + 1 := by omega
    have b' : (y : Int) < 256 := by omega
    clear ht h
    go_enter Try.func22, Try.ntmps22
    go_wp2
    go_ret
    exact ⟨rfl, rfl⟩
  · obtain rfl : t = (y : Int) + 1 := by rw [← ht.out]; unfold spTop; rw [if_neg h]
    have h1 : ¬ (240 : Int) < (y : Int) + 1 := by omega
    have b' : (y : Int) < 256 := by omega
    clear ht h
    go_enter Try.func22, Try.ntmps22
    go_wp2
    go_ret
    exact ⟨rfl, rfl⟩

end Go.Proofs.Ytcefgcoibppdaaa
