/-
  The document's Source.
-/
import Derived.Test.YtnkckdlolieojaaTiEntry
import Derived.Test.YtnkckdlolieojaaOwn
import Derived.Test.YtnkckdlolieojaaVRegs
namespace Go.Proofs.Ytnkckdlolieojaa
open Go.RowKit

set_option maxHeartbeats 1600000 in
theorem rsource_at (r0 r1 r2 r3 r4 r5 r6 r7 r8 r9 r10 : Nat) (line x A C R c q : Int) (h0 : r0 < 256) (h8 : r8 < 256) (h9 : r9 < 256) (l0 : 0 ≤ line) (l1 : line ≤ 191)
    (hA : Hid (x % 256 = A)) (hC : Hid ((A - (r8 : Int)) % 256 = C)) (hR : Hid ((line + (r9 : Int)) % 224 = R))
    (hc : Hid (c = if r0 / 64 % 2 = 1 ∧ line < 16 then A else C)) (hq : Hid (q = if r0 / 128 = 1 ∧ 192 ≤ A then line else R)) (w : World) :
    Calls Try.prog 13 #[regsV r0 r1 r2 r3 r4 r5 r6 r7 r8 r9 r10, .int .i64 line, .int .i64 x] w fun e w' => e = .returned (.tuple #[.int .i64 c, .int .i64 q]) ∧ Below w.heap.size w w' := by
  have A0 : 0 ≤ A ∧ A < 256 := by have := hA.out; omega
  obtain ⟨A1, A2⟩ := A0
  have C0 : 0 ≤ C ∧ C < 256 := by have := hC.out; omega
  obtain ⟨C1, C2⟩ := C0
  have R0 : (line + (r9 : Int)).tmod 224 = R := by rw [Int.tmod_eq_emod_of_nonneg (by omega)]; exact hR.out
  obtain ⟨p, hp⟩ : ∃ p : Nat, r0 / 64 = p := ⟨_, rfl⟩
  obtain ⟨b, hb⟩ : ∃ b : Nat, p % 2 = b := ⟨_, rfl⟩
  obtain ⟨s, hs⟩ : ∃ s : Nat, r0 / 128 = s := ⟨_, rfl⟩
  have P1 : IntKind.u8.wrap ((r0 : Int) / 64) = (p : Int) := by rw [IntKind.wrap_u8]; omega
  have P2 : IntKind.u8.wrap ((p : Int) % 2) = (b : Int) := by rw [IntKind.wrap_u8]; omega
  have P3 : IntKind.u8.wrap ((r0 : Int) / 128) = (s : Int) := by rw [IntKind.wrap_u8]; omega
  have P4 : (p : Int) % 2 = (b : Int) := by omega
  have ec := hc.out
  have eq := hq.out
  rw [hp, hb] at ec
  rw [hs] at eq
  clear hp hb hs hR hc hq
  by_cases k1 : b = 1 <;> by_cases k2 : line < 16 <;> by_cases k3 : s = 1 <;> by_cases k4 : 192 ≤ A <;> simp only [k1, k2, k3, k4, and_true, and_false, if_true, if_false, and_self] at ec eq
  all_goals
    rw [ec, eq]
    clear ec eq
    have HM := Lib.hid (Own.start w)
    have tg1 : Hid True := Lib.hid trivial
    go_enter Try.func13, Try.ntmps13
    go_wp2_with (first | ((with_reducible apply own_box HM); exact rfl; (conv => lhs; whnf); exact rfl; exact rfl; (first | (clear tg1; intro w' g1 HM') | (clear tg2; intro w' g2 HM') | (clear tg3; intro w' g3 HM') | (clear tg4; intro w' g4 HM') | intro w' g' HM'); clear HM; have HM := HM'; clear HM'; all_goals skip) | ((with_reducible apply own_cell HM); exact rfl; exact rfl; (first | (with_reducible exact one8)); (first | with_reducible exact .z | with_reducible exact .s .z | with_reducible exact .s (.s .z) | with_reducible exact .s (.s (.s .z)) | with_reducible exact .s (.s (.s (.s .z))) | with_reducible exact .s (.s (.s (.s (.s .z))))); (focus repeat' (first | with_reducible exact .z | with_reducible apply Drop.s)); exact rfl; all_goals skip) | ((with_reducible apply own_load HM); exact rfl; exact rfl; (first | (with_reducible exact agg11)); (first | with_reducible exact .z | with_reducible exact .s .z | with_reducible exact .s (.s .z) | with_reducible exact .s (.s (.s .z)) | with_reducible exact .s (.s (.s (.s .z))) | with_reducible exact .s (.s (.s (.s (.s .z))))); (focus repeat' (first | with_reducible exact .z | with_reducible apply Drop.s)); (focus repeat' (first | with_reducible exact .z | with_reducible apply Take.s)); exact rfl; all_goals skip) | ((with_reducible apply own_store HM); exact rfl; exact rfl; (conv => lhs; whnf); exact rfl; (first | with_reducible exact .z | with_reducible exact .s .z | with_reducible exact .s (.s .z) | with_reducible exact .s (.s (.s .z)) | with_reducible exact .s (.s (.s (.s .z))) | with_reducible exact .s (.s (.s (.s (.s .z))))); (focus repeat' (first | with_reducible exact .z | with_reducible apply Over.p | with_reducible apply Over.s)); (first | with_reducible exact .z | with_reducible exact .s .z | with_reducible exact .s (.s .z) | with_reducible exact .s (.s (.s .z)) | with_reducible exact .s (.s (.s (.s .z))) | with_reducible exact .s (.s (.s (.s (.s .z))))); (first | (with_reducible exact (agg11).size) | (with_reducible exact (one8).size)); exact rfl; exact rfl; exact rfl; exact rfl; intro w' HM'; clear HM; have HM := HM'; clear HM'; all_goals skip) | (go_at_call 20; (with_reducible refine (rmod_at x 256 A (by decide) (by decide) hA _).mono ?_); rintro e w' ⟨rfl, rfl⟩) | (go_at_call 20; (with_reducible refine (rmod_at (A - (r8 : Int)) 256 C (by decide) (by decide) hC _).mono ?_); rintro e w' ⟨rfl, rfl⟩))
    all_goals (go_ret2; first | exact ⟨rfl, Own.fin HM⟩ | (exfalso; omega))
end Go.Proofs.Ytnkckdlolieojaa
