/-
  The document's Logic (both, just one, one), by one contract.
-/
import Derived.Test.YthjjdpelddboeaaSumRefMore
import Derived.Test.YthjjdpelddboeaaSumChkD
import Derived.Deep.QuietTactic
import Derived.Deep.Cut
import Derived.Deep.CutRange
import Derived.BigQuiet
namespace Go.Proofs.Ythjjdpelddboeaa
open Go.RowKit

/-- what Logic's op asks of a bit's two ones -/
def onOf (op : Nat) : Nat → Bool := if op = 4 then on4 else if op = 5 then on5 else on6
theorem nLog_step (on : Nat → Bool) (a b k : Nat) : nLog on a b (k + 1) = 2 * nLog on a b k + cond (on (a / 2 ^ (7 - k) % 2 + b / 2 ^ (7 - k) % 2)) 1 0 := rfl

set_option maxRecDepth 100000 in
set_option maxHeartbeats 1600000 in
theorem rlogic_at (op : Nat) (hop : op = 4 ∨ op = 5 ∨ op = 6) (a b v g : Nat) (ha : a < 256) (hb : b < 256) (hv : Hid (nLog (onOf op) a b 8 = v)) (hg : Hid (nBitsF v (Nat.beq op 4) = g)) (w : World) :
    Calls Try.prog 25 #[.int .i64 (op : Int), .int .u8 (a : Int), .int .u8 (b : Int)] w fun e w' => e = .returned (.tuple #[.int .u8 (v : Int), .int .u8 (g : Int)]) ∧ Below w.heap.size w w' := by
  have tg1 : Hid True := trivial
  have a0 : (a : Int) < 256 := by omega
  have b0 : (b : Int) < 256 := by omega
  clear ha hb
  go_enter Try.func25, Try.ntmps25
  go_wp2
  go_loopw [8, 9] (fun o i wr => ∃ k m : Nat, k ≤ 8 ∧ i = .int .i64 (7 - (k : Int)) ∧ o = .int .u8 m ∧ Hid (nLog (onOf op) a b k = m) ∧ Hid (Below w.heap.size w wr)) (fun _ i _ => (intOf i + 1).toNat)
  case atStart => exact ⟨0, 0, by omega, rfl, rfl, rfl, Below.refl _ _⟩
  case round =>
    obtain ⟨k, m, hk, rfl, rfl, HR, HB⟩ := hrel
    by_cases hlt : (k : Int) < 8
    · have h0 : (0 : Int) ≤ 7 - (k : Int) := by omega
      have HS : Hid (nLog (onOf op) a b (k + 1) = 2 * m + cond (onOf op (a / 2 ^ (7 - k) % 2 + b / 2 ^ (7 - k) % 2)) 1 0) := by show _ = _; rw [nLog_step, HR.out]
      have hm : (m : Int) < 128 := by
        have h1 := nLog_lt (onOf op) a b k
        rw [HR.out] at h1
        have h2 : 2 ^ k ≤ 2 ^ 7 := Nat.pow_le_pow_right (by omega) (by omega)
        omega
      clear HR
      obtain ⟨A, hA⟩ : ∃ A, a / 2 ^ (7 - k) % 2 = A := ⟨_, rfl⟩
      obtain ⟨B, hB⟩ : ∃ B, b / 2 ^ (7 - k) % 2 = B := ⟨_, rfl⟩
      rw [hA, hB] at HS
      obtain ⟨X, hX⟩ : ∃ X, A + B = X := ⟨_, rfl⟩
      rw [hX] at HS
      have HX := Lib.hid hX
      have A2 : A < 2 := by omega
      have B2 : B < 2 := by omega
      have X2 : (X : Int) ≤ 2 := by omega
      have HA := Lib.hid hA
      have HB' := Lib.hid hB
      clear hA hB hX
      go_wp2_with fail
      go_cut [10] from 16 to 26 (fun s10 wx => s10 = .int .i64 (X : Int) ∧ Hid (Below w.heap.size w wx))
      case first =>
        have hcases : k = 0 ∨ k = 1 ∨ k = 2 ∨ k = 3 ∨ k = 4 ∨ k = 5 ∨ k = 6 ∨ k = 7 := by omega
        rcases hcases with rfl | rfl | rfl | rfl | rfl | rfl | rfl | rfl
        · simp only [Int.natCast_zero, Int.sub_zero] at h0 hlt ⊢
          have a2 : (a : Int) / 128 % 2 = (A : Int) := by (have h := HA.out; simp at h; omega)
          have b2 : (b : Int) / 128 % 2 = (B : Int) := by (have h := HB'.out; simp at h; omega)
          have a3 : ((a : Int) / 128).tmod 2 = (a : Int) / 128 % 2 := Int.tmod_eq_emod_of_nonneg (by omega)
          have b3 : ((b : Int) / 128).tmod 2 = (b : Int) / 128 % 2 := Int.tmod_eq_emod_of_nonneg (by omega)
          go_quiet (fail)
          go_wp2_with fail
          go_meet
          exact ⟨by rw [← HX.out, Int.natCast_add], ⟨HB.out.os, HB.out.tape, HB.out.output, HB.out.size, HB.out.block⟩⟩
        · simp at h0 hlt ⊢
          have a2 : (a : Int) / 64 % 2 = (A : Int) := by (have h := HA.out; simp at h; omega)
          have b2 : (b : Int) / 64 % 2 = (B : Int) := by (have h := HB'.out; simp at h; omega)
          have a3 : ((a : Int) / 64).tmod 2 = (a : Int) / 64 % 2 := Int.tmod_eq_emod_of_nonneg (by omega)
          have b3 : ((b : Int) / 64).tmod 2 = (b : Int) / 64 % 2 := Int.tmod_eq_emod_of_nonneg (by omega)
          go_quiet (fail)
          go_wp2_with fail
          go_meet
          exact ⟨by rw [← HX.out, Int.natCast_add], ⟨HB.out.os, HB.out.tape, HB.out.output, HB.out.size, HB.out.block⟩⟩
        · simp at h0 hlt ⊢
          have a2 : (a : Int) / 32 % 2 = (A : Int) := by (have h := HA.out; simp at h; omega)
          have b2 : (b : Int) / 32 % 2 = (B : Int) := by (have h := HB'.out; simp at h; omega)
          have a3 : ((a : Int) / 32).tmod 2 = (a : Int) / 32 % 2 := Int.tmod_eq_emod_of_nonneg (by omega)
          have b3 : ((b : Int) / 32).tmod 2 = (b : Int) / 32 % 2 := Int.tmod_eq_emod_of_nonneg (by omega)
          go_quiet (fail)
          go_wp2_with fail
          go_meet
          exact ⟨by rw [← HX.out, Int.natCast_add], ⟨HB.out.os, HB.out.tape, HB.out.output, HB.out.size, HB.out.block⟩⟩
        · simp at h0 hlt ⊢
          have a2 : (a : Int) / 16 % 2 = (A : Int) := by (have h := HA.out; simp at h; omega)
          have b2 : (b : Int) / 16 % 2 = (B : Int) := by (have h := HB'.out; simp at h; omega)
          have a3 : ((a : Int) / 16).tmod 2 = (a : Int) / 16 % 2 := Int.tmod_eq_emod_of_nonneg (by omega)
          have b3 : ((b : Int) / 16).tmod 2 = (b : Int) / 16 % 2 := Int.tmod_eq_emod_of_nonneg (by omega)
          go_quiet (fail)
          go_wp2_with fail
          go_meet
          exact ⟨by rw [← HX.out, Int.natCast_add], ⟨HB.out.os, HB.out.tape, HB.out.output, HB.out.size, HB.out.block⟩⟩
        · simp at h0 hlt ⊢
          have a2 : (a : Int) / 8 % 2 = (A : Int) := by (have h := HA.out; simp at h; omega)
          have b2 : (b : Int) / 8 % 2 = (B : Int) := by (have h := HB'.out; simp at h; omega)
          have a3 : ((a : Int) / 8).tmod 2 = (a : Int) / 8 % 2 := Int.tmod_eq_emod_of_nonneg (by omega)
          have b3 : ((b : Int) / 8).tmod 2 = (b : Int) / 8 % 2 := Int.tmod_eq_emod_of_nonneg (by omega)
          go_quiet (fail)
          go_wp2_with fail
          go_meet
          exact ⟨by rw [← HX.out, Int.natCast_add], ⟨HB.out.os, HB.out.tape, HB.out.output, HB.out.size, HB.out.block⟩⟩
        · simp at h0 hlt ⊢
          have a2 : (a : Int) / 4 % 2 = (A : Int) := by (have h := HA.out; simp at h; omega)
          have b2 : (b : Int) / 4 % 2 = (B : Int) := by (have h := HB'.out; simp at h; omega)
          have a3 : ((a : Int) / 4).tmod 2 = (a : Int) / 4 % 2 := Int.tmod_eq_emod_of_nonneg (by omega)
          have b3 : ((b : Int) / 4).tmod 2 = (b : Int) / 4 % 2 := Int.tmod_eq_emod_of_nonneg (by omega)
          go_quiet (fail)
          go_wp2_with fail
          go_meet
          exact ⟨by rw [← HX.out, Int.natCast_add], ⟨HB.out.os, HB.out.tape, HB.out.output, HB.out.size, HB.out.block⟩⟩
        · simp at h0 hlt ⊢
          have a2 : (a : Int) / 2 % 2 = (A : Int) := by (have h := HA.out; simp at h; omega)
          have b2 : (b : Int) / 2 % 2 = (B : Int) := by (have h := HB'.out; simp at h; omega)
          have a3 : ((a : Int) / 2).tmod 2 = (a : Int) / 2 % 2 := Int.tmod_eq_emod_of_nonneg (by omega)
          have b3 : ((b : Int) / 2).tmod 2 = (b : Int) / 2 % 2 := Int.tmod_eq_emod_of_nonneg (by omega)
          go_quiet (fail)
          go_wp2_with fail
          go_meet
          exact ⟨by rw [← HX.out, Int.natCast_add], ⟨HB.out.os, HB.out.tape, HB.out.output, HB.out.size, HB.out.block⟩⟩
        · simp at h0 hlt ⊢
          have a2 : (a : Int) % 2 = (A : Int) := by (have h := HA.out; simp at h; omega)
          have b2 : (b : Int) % 2 = (B : Int) := by (have h := HB'.out; simp at h; omega)
          have a3 : ((a : Int)).tmod 2 = (a : Int) % 2 := Int.tmod_eq_emod_of_nonneg (by omega)
          have b3 : ((b : Int)).tmod 2 = (b : Int) % 2 := Int.tmod_eq_emod_of_nonneg (by omega)
          go_quiet (fail)
          go_wp2_with fail
          go_meet
          exact ⟨by rw [← HX.out, Int.natCast_add], ⟨HB.out.os, HB.out.tape, HB.out.output, HB.out.size, HB.out.block⟩⟩
      case rest =>
        obtain ⟨rfl, HB2⟩ := hcut
        clear HB HX HA HB' A2 B2
        have hX : X = 0 ∨ X = 1 ∨ X = 2 := by omega
        rcases hop with rfl | rfl | rfl
        all_goals rcases hX with rfl | rfl | rfl
        all_goals
          first
            | have HS3 : Hid (nLog _ a b (k + 1) = 2 * m + 1) := HS
            | have HS3 : Hid (nLog _ a b (k + 1) = 2 * m) := HS
          clear HS
          go_wp2
          go_roundw
          case' rel => refine ⟨k + 1, _, by omega, by go_num, ?_, HS3.out, HB2⟩
          case' measure => simp [intOf]; omega
          first | (rw [Int.natCast_add, Int.natCast_mul]; rfl) | (rw [Int.natCast_mul]; rfl)
    · have e8 : k = 8 := by omega
      have e : m = v := by rw [← HR.out, e8]; exact hv.out
      subst e
      have HM := Lib.hid (show Own w wr [] from ⟨HB.out, by simp, .nil⟩)
      have m1 : m < 256 := by
        have h := nLog_lt (onOf op) a b 8
        rw [hv.out] at h
        exact h
      obtain ⟨s, z, y, x, hs⟩ : ∃ s z y x, Hid (nS m = s ∧ nZ m = z ∧ nBit 32 m = y ∧ nBit 8 m = x) := ⟨_, _, _, _, rfl, rfl, rfl, rfl⟩
      obtain ⟨p, hp⟩ : ∃ p, Hid (nPar m = p) := ⟨_, rfl⟩
      have h4 : ((op : Int) == 4) = Nat.beq op 4 := eq_of op 4
      obtain ⟨H, hH⟩ : ∃ H, Nat.beq op 4 = H := ⟨_, rfl⟩
      rw [hH] at h4 hg
      have HG : Hid (nByte s z y H x p false false = g) := by
        show _ = _
        obtain ⟨rfl, rfl, rfl, rfl⟩ := hs.out
        rw [← hg.out, ← hp.out]; rfl
      clear hH HR hv hg hop HB hk e8
      go_wp2_with (first
        | ((with_reducible apply own_box HM); exact rfl; (conv => lhs; whnf); exact rfl; exact rfl; (first | (clear tg1; intro w' g1 HM') | (clear tg2; intro w' g2 HM') | (clear tg3; intro w' g3 HM') | (clear tg4; intro w' g4 HM') | intro w' g' HM'); clear HM; have HM := HM'; clear HM'; all_goals skip) | ((with_reducible apply own_alloc HM); exact rfl; (first | (with_reducible exact zeroF)); exact rfl; (first | (clear tg1; intro w' g1 HM') | (clear tg2; intro w' g2 HM') | (clear tg3; intro w' g3 HM') | (clear tg4; intro w' g4 HM') | intro w' g' HM'); clear HM; have HM := HM'; clear HM'; all_goals skip) | ((with_reducible apply own_cell HM); exact rfl; exact rfl; (first | (with_reducible exact oneBool)); (first | with_reducible exact .z | with_reducible exact .s .z | with_reducible exact .s (.s .z) | with_reducible exact .s (.s (.s .z)) | with_reducible exact .s (.s (.s (.s .z))) | with_reducible exact .s (.s (.s (.s (.s .z))))); (focus repeat' (first | with_reducible exact .z | with_reducible apply Drop.s)); exact rfl; all_goals skip) | ((with_reducible apply own_load HM); exact rfl; exact rfl; (first | (with_reducible exact aggF)); (first | with_reducible exact .z | with_reducible exact .s .z | with_reducible exact .s (.s .z) | with_reducible exact .s (.s (.s .z)) | with_reducible exact .s (.s (.s (.s .z))) | with_reducible exact .s (.s (.s (.s (.s .z))))); (focus repeat' (first | with_reducible exact .z | with_reducible apply Drop.s)); (focus repeat' (first | with_reducible exact .z | with_reducible apply Take.s)); exact rfl; all_goals skip) | ((with_reducible apply own_store HM); exact rfl; exact rfl; (conv => lhs; whnf); exact rfl; (first | with_reducible exact .z | with_reducible exact .s .z | with_reducible exact .s (.s .z) | with_reducible exact .s (.s (.s .z)) | with_reducible exact .s (.s (.s (.s .z))) | with_reducible exact .s (.s (.s (.s (.s .z))))); (focus repeat' (first | with_reducible exact .z | with_reducible apply Over.p | with_reducible apply Over.s)); (first | with_reducible exact .z | with_reducible exact .s .z | with_reducible exact .s (.s .z) | with_reducible exact .s (.s (.s .z)) | with_reducible exact .s (.s (.s (.s .z))) | with_reducible exact .s (.s (.s (.s (.s .z))))); (first | (with_reducible exact (aggF).size) | (with_reducible exact (oneBool).size)); exact rfl; exact rfl; exact rfl; exact rfl; intro w' HM'; clear HM; have HM := HM'; clear HM'; all_goals skip)
        | (go_at_call 22; (with_reducible refine (rshape_at m s z y x m1 hs _).mono ?_); rintro e w' ⟨rfl, hb⟩; have HM' := Lib.hid (HM.out.call hb); clear HM hb; have HM := HM'; clear HM')
        | (go_at_call 20; (with_reducible refine (rparity_at m p m1 hp _).mono ?_); rintro e w' ⟨rfl, rfl⟩)
        | (go_at_call 21; (with_reducible refine (byte_at s z y H x p false false g HG _).mono ?_); rintro e w' ⟨rfl, hb⟩; have HM' := Lib.hid (HM.out.call hb); clear HM hb; have HM := HM'; clear HM'))
      go_ret2
      exact ⟨pair_eq rfl rfl, Own.fin HM⟩

theorem rlogic_to (op : Nat) (a b v g : Nat) (ha : a < 256) (hb : b < 256) (w : World)
    (h : (op = 4 ∧ a &&& b = v ∧ nBitsF v true = g) ∨ (op = 5 ∧ a ^^^ b = v ∧ nBitsF v false = g) ∨ (op = 6 ∧ a ||| b = v ∧ nBitsF v false = g)) :
    Calls Try.prog 25 #[.int .i64 (op : Int), .int .u8 (a : Int), .int .u8 (b : Int)] w fun e w' => e = .returned (.tuple #[.int .u8 (v : Int), .int .u8 (g : Int)]) ∧ Below w.heap.size w w' := by
  rcases h with ⟨rfl, h1, h2⟩ | ⟨rfl, h1, h2⟩ | ⟨rfl, h1, h2⟩
  · exact rlogic_at 4 (by omega) a b v g ha hb (by show _ = _; rw [← h1]; exact log4 a b ha hb) h2 w
  · exact rlogic_at 5 (by omega) a b v g ha hb (by show _ = _; rw [← h1]; exact log5 a b ha hb) h2 w
  · exact rlogic_at 6 (by omega) a b v g ha hb (by show _ = _; rw [← h1]; exact log6 a b ha hb) h2 w

end Go.Proofs.Ythjjdpelddboeaa
