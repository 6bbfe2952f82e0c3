/-
  The document's Step, by one contract.
-/
import Derived.Test.YtnkfelflpkbobaaDoorNoiseRight
import Derived.Test.YtnkfelflpkbobaaDoorNoiseNumber
namespace Go.Proofs.YtnkfelflpkbobaaDoor
open Go.RowKit

theorem rmove_at (x : Int) (wh : Bool) (y : Int) (h0 : 0 ≤ x) (h1 : x < 65536) (h : Hid (moveOf x wh = y)) (w : World) :
    Calls Tryd.prog 37 #[.int .u16 x, .bool wh] w fun e w' => e = .returned (.int .u16 y) ∧ Below w.heap.size w w' := by
  rw [← h.out]; exact rmove_any x wh h0 h1 w

theorem idx0 (w : World) : (Instr.index 61 (.agg #[.int .i64 16, .int .i64 32, .int .i64 64]) (.int .u8 0)).run Tryd.prog w = .ok (.int .i64 16) w := by kernel_rfl
theorem idx1 (w : World) : (Instr.index 61 (.agg #[.int .i64 16, .int .i64 32, .int .i64 64]) (.int .u8 1)).run Tryd.prog w = .ok (.int .i64 32) w := by kernel_rfl
theorem idx2 (w : World) : (Instr.index 61 (.agg #[.int .i64 16, .int .i64 32, .int .i64 64]) (.int .u8 2)).run Tryd.prog w = .ok (.int .i64 64) w := by kernel_rfl

set_option maxHeartbeats 3200000 in
theorem rstep_at (m c : Int) (h : Bool) (x : Int) (t : Bool) (C : Int) (H : Bool) (X : Int) (hn : Hid (NextN m c h x t C H X)) (m0 : 0 ≤ m) (m1 : m < 8) (c0 : 0 ≤ c) (c1 : c ≤ 64) (x0 : 0 ≤ x) (x1 : x < 65536) (w : World) :
    Calls Tryd.prog 32 #[.agg #[.int .u8 m, .int .i64 c, .bool h, .int .u16 x], .bool t] w fun e w' =>
      e = .returned (.agg #[.int .u8 m, .int .i64 C, .bool H, .int .u16 X]) ∧ Below w.heap.size w w' := by
  have HM := Lib.hid (Own.start w)
  obtain ⟨n0, n1, n2⟩ := hn.out
  have hq : IntKind.u8.wrap (m.tdiv 4) = m / 4 := by rw [Int.tdiv_eq_ediv_of_nonneg m0, IntKind.wrap_u8']; omega
  obtain ⟨W, hW⟩ : ∃ W, W = whiteB m := ⟨_, rfl⟩
  have hw : (m / 4 == 1) = W := by rw [hW]; unfold whiteB; rw [Bool.eq_iff_iff, beq_iff_eq, decide_eq_true_eq]; omega
  obtain ⟨Y, hY⟩ : ∃ Y, Y = moveOf x W := ⟨_, rfl⟩
  have HY : Hid (moveOf x W = Y) := hY.symm
  -- which way the step goes: does it tick, and what is Count then
  have key : (ticksB m c t = false ∧ H = h ∧ X = x ∧ ((m % 4 = 3 ∧ t = false ∧ C = c) ∨ (¬ m % 4 = 3 ∧ 1 < c ∧ C = c - 1))) ∨
      (ticksB m c t = true ∧ H = (!h) ∧ X = (if h = true then x else Y) ∧ ((m % 4 = 3 ∧ t = true ∧ C = c) ∨ (¬ m % 4 = 3 ∧ c ≤ 1 ∧ ((m % 4 = 0 ∧ C = 16) ∨ (m % 4 = 1 ∧ C = 32) ∨ (m % 4 = 2 ∧ C = 64))))) := by
    rw [hY, hW, ← n0, ← n1, ← n2]
    unfold nextH nextX nextCt
    cases ht : ticksB m c t
    · left
      refine ⟨rfl, by simp, by simp, ?_⟩
      unfold ticksB at ht
      by_cases h3 : m % 4 = 3
      · rw [if_pos h3] at ht
        left; exact ⟨h3, ht, by rw [if_pos h3]⟩
      · rw [if_neg h3] at ht
        right; have : 1 < c := by simpa using ht
        exact ⟨h3, this, by rw [if_neg h3, if_pos this]⟩
    · right
      refine ⟨rfl, by simp, by cases h <;> simp, ?_⟩
      unfold ticksB at ht
      by_cases h3 : m % 4 = 3
      · rw [if_pos h3] at ht
        left; exact ⟨h3, ht, by rw [if_pos h3]⟩
      · rw [if_neg h3] at ht
        right; have : c ≤ 1 := by simpa using ht
        refine ⟨h3, this, ?_⟩
        rw [if_neg h3, if_neg (by omega)]
        rcases (show m % 4 = 0 ∨ m % 4 = 1 ∨ m % 4 = 2 by omega) with hk | hk | hk
        · left; exact ⟨hk, by rw [if_pos hk]⟩
        · right; left; exact ⟨hk, by rw [if_neg (by omega), if_pos hk]⟩
        · right; right; exact ⟨hk, by rw [if_neg (by omega), if_neg (by omega)]⟩
  clear n0 n1 n2 hn hW hY
  rcases key with ⟨-, rfl, rfl, ⟨h3, rfl, rfl⟩ | ⟨h3, hc, rfl⟩⟩ | ⟨-, rfl, rfl, ⟨h3, rfl, rfl⟩ | ⟨h3, hc, ⟨h3', rfl⟩ | ⟨h3', rfl⟩ | ⟨h3', rfl⟩⟩⟩
  · go_enter Tryd.func32, Tryd.ntmps32
    go_wp2_with (first
      | ((with_reducible apply own_box HM); exact rfl; (conv => lhs; whnf); exact rfl; exact rfl; (first | (clear tg1; intro w' g1 HM') | (clear tg2; intro w' g2 HM') | (clear tg3; intro w' g3 HM') | (clear tg4; intro w' g4 HM') | intro w' g' HM'); clear HM; have HM := HM'; clear HM'; all_goals skip) | ((with_reducible apply own_alloc HM); exact rfl; (first | (with_reducible exact zeroN)); exact rfl; (first | (clear tg1; intro w' g1 HM') | (clear tg2; intro w' g2 HM') | (clear tg3; intro w' g3 HM') | (clear tg4; intro w' g4 HM') | intro w' g' HM'); clear HM; have HM := HM'; clear HM'; all_goals skip) | ((with_reducible apply own_cell HM); exact rfl; exact rfl; (first | (with_reducible exact oneInt) | (with_reducible exact oneBool) | (with_reducible exact oneU8) | (with_reducible exact oneU16)); (first | with_reducible exact .z | with_reducible exact .s .z | with_reducible exact .s (.s .z) | with_reducible exact .s (.s (.s .z)) | with_reducible exact .s (.s (.s (.s .z))) | with_reducible exact .s (.s (.s (.s (.s .z))))); (focus repeat' (first | with_reducible exact .z | with_reducible apply Drop.s)); exact rfl; all_goals skip) | ((with_reducible apply own_load HM); exact rfl; exact rfl; (first | (with_reducible exact aggN)); (first | with_reducible exact .z | with_reducible exact .s .z | with_reducible exact .s (.s .z) | with_reducible exact .s (.s (.s .z)) | with_reducible exact .s (.s (.s (.s .z))) | with_reducible exact .s (.s (.s (.s (.s .z))))); (focus repeat' (first | with_reducible exact .z | with_reducible apply Drop.s)); (focus repeat' (first | with_reducible exact .z | with_reducible apply Take.s)); exact rfl; all_goals skip) | ((with_reducible apply own_store HM); exact rfl; exact rfl; (conv => lhs; whnf); exact rfl; (first | with_reducible exact .z | with_reducible exact .s .z | with_reducible exact .s (.s .z) | with_reducible exact .s (.s (.s .z)) | with_reducible exact .s (.s (.s (.s .z))) | with_reducible exact .s (.s (.s (.s (.s .z))))); (focus repeat' (first | with_reducible exact .z | with_reducible apply Over.p | with_reducible apply Over.s)); (first | with_reducible exact .z | with_reducible exact .s .z | with_reducible exact .s (.s .z) | with_reducible exact .s (.s (.s .z)) | with_reducible exact .s (.s (.s (.s .z))) | with_reducible exact .s (.s (.s (.s (.s .z))))); (first | (with_reducible exact (aggN).size) | (with_reducible exact (oneInt).size) | (with_reducible exact (oneBool).size) | (with_reducible exact (oneU8).size) | (with_reducible exact (oneU16).size)); exact rfl; exact rfl; exact rfl; exact rfl; intro w' HM'; clear HM; have HM := HM'; clear HM'; all_goals skip))
    refine bodyPost_ret (v := .agg #[.int .u8 m, .int .i64 _, .bool _, .int .u16 _]) (own_results HM Tryd.results32 _ rfl (by first | exact .z | exact .s .z) aggN) rfl ⟨rfl, Own.fin HM⟩
  · have h3' : (m % 4 != 3) = true := by rw [bne_iff_ne]; exact h3
    clear h3
    go_enter Tryd.func32, Tryd.ntmps32
    go_wp2_with (first
      | ((with_reducible apply own_box HM); exact rfl; (conv => lhs; whnf); exact rfl; exact rfl; (first | (clear tg1; intro w' g1 HM') | (clear tg2; intro w' g2 HM') | (clear tg3; intro w' g3 HM') | (clear tg4; intro w' g4 HM') | intro w' g' HM'); clear HM; have HM := HM'; clear HM'; all_goals skip) | ((with_reducible apply own_alloc HM); exact rfl; (first | (with_reducible exact zeroN)); exact rfl; (first | (clear tg1; intro w' g1 HM') | (clear tg2; intro w' g2 HM') | (clear tg3; intro w' g3 HM') | (clear tg4; intro w' g4 HM') | intro w' g' HM'); clear HM; have HM := HM'; clear HM'; all_goals skip) | ((with_reducible apply own_cell HM); exact rfl; exact rfl; (first | (with_reducible exact oneInt) | (with_reducible exact oneBool) | (with_reducible exact oneU8) | (with_reducible exact oneU16)); (first | with_reducible exact .z | with_reducible exact .s .z | with_reducible exact .s (.s .z) | with_reducible exact .s (.s (.s .z)) | with_reducible exact .s (.s (.s (.s .z))) | with_reducible exact .s (.s (.s (.s (.s .z))))); (focus repeat' (first | with_reducible exact .z | with_reducible apply Drop.s)); exact rfl; all_goals skip) | ((with_reducible apply own_load HM); exact rfl; exact rfl; (first | (with_reducible exact aggN)); (first | with_reducible exact .z | with_reducible exact .s .z | with_reducible exact .s (.s .z) | with_reducible exact .s (.s (.s .z)) | with_reducible exact .s (.s (.s (.s .z))) | with_reducible exact .s (.s (.s (.s (.s .z))))); (focus repeat' (first | with_reducible exact .z | with_reducible apply Drop.s)); (focus repeat' (first | with_reducible exact .z | with_reducible apply Take.s)); exact rfl; all_goals skip) | ((with_reducible apply own_store HM); exact rfl; exact rfl; (conv => lhs; whnf); exact rfl; (first | with_reducible exact .z | with_reducible exact .s .z | with_reducible exact .s (.s .z) | with_reducible exact .s (.s (.s .z)) | with_reducible exact .s (.s (.s (.s .z))) | with_reducible exact .s (.s (.s (.s (.s .z))))); (focus repeat' (first | with_reducible exact .z | with_reducible apply Over.p | with_reducible apply Over.s)); (first | with_reducible exact .z | with_reducible exact .s .z | with_reducible exact .s (.s .z) | with_reducible exact .s (.s (.s .z)) | with_reducible exact .s (.s (.s (.s .z))) | with_reducible exact .s (.s (.s (.s (.s .z))))); (first | (with_reducible exact (aggN).size) | (with_reducible exact (oneInt).size) | (with_reducible exact (oneBool).size) | (with_reducible exact (oneU8).size) | (with_reducible exact (oneU16).size)); exact rfl; exact rfl; exact rfl; exact rfl; intro w' HM'; clear HM; have HM := HM'; clear HM'; all_goals skip))
    refine bodyPost_ret (v := .agg #[.int .u8 m, .int .i64 _, .bool _, .int .u16 _]) (own_results HM Tryd.results32 _ rfl (by first | exact .z | exact .s .z) aggN) rfl ⟨rfl, Own.fin HM⟩
  all_goals cases h
  all_goals have i0 := idx0
  all_goals have i1 := idx1
  all_goals have i2 := idx2
  all_goals
    go_enter Tryd.func32, Tryd.ntmps32
    go_wp2_with (first
      | ((with_reducible apply own_box HM); exact rfl; (conv => lhs; whnf); exact rfl; exact rfl; (first | (clear tg1; intro w' g1 HM') | (clear tg2; intro w' g2 HM') | (clear tg3; intro w' g3 HM') | (clear tg4; intro w' g4 HM') | intro w' g' HM'); clear HM; have HM := HM'; clear HM'; all_goals skip) | ((with_reducible apply own_alloc HM); exact rfl; (first | (with_reducible exact zeroN)); exact rfl; (first | (clear tg1; intro w' g1 HM') | (clear tg2; intro w' g2 HM') | (clear tg3; intro w' g3 HM') | (clear tg4; intro w' g4 HM') | intro w' g' HM'); clear HM; have HM := HM'; clear HM'; all_goals skip) | ((with_reducible apply own_cell HM); exact rfl; exact rfl; (first | (with_reducible exact oneInt) | (with_reducible exact oneBool) | (with_reducible exact oneU8) | (with_reducible exact oneU16)); (first | with_reducible exact .z | with_reducible exact .s .z | with_reducible exact .s (.s .z) | with_reducible exact .s (.s (.s .z)) | with_reducible exact .s (.s (.s (.s .z))) | with_reducible exact .s (.s (.s (.s (.s .z))))); (focus repeat' (first | with_reducible exact .z | with_reducible apply Drop.s)); exact rfl; all_goals skip) | ((with_reducible apply own_load HM); exact rfl; exact rfl; (first | (with_reducible exact aggN)); (first | with_reducible exact .z | with_reducible exact .s .z | with_reducible exact .s (.s .z) | with_reducible exact .s (.s (.s .z)) | with_reducible exact .s (.s (.s (.s .z))) | with_reducible exact .s (.s (.s (.s (.s .z))))); (focus repeat' (first | with_reducible exact .z | with_reducible apply Drop.s)); (focus repeat' (first | with_reducible exact .z | with_reducible apply Take.s)); exact rfl; all_goals skip) | ((with_reducible apply own_store HM); exact rfl; exact rfl; (conv => lhs; whnf); exact rfl; (first | with_reducible exact .z | with_reducible exact .s .z | with_reducible exact .s (.s .z) | with_reducible exact .s (.s (.s .z)) | with_reducible exact .s (.s (.s (.s .z))) | with_reducible exact .s (.s (.s (.s (.s .z))))); (focus repeat' (first | with_reducible exact .z | with_reducible apply Over.p | with_reducible apply Over.s)); (first | with_reducible exact .z | with_reducible exact .s .z | with_reducible exact .s (.s .z) | with_reducible exact .s (.s (.s .z)) | with_reducible exact .s (.s (.s (.s .z))) | with_reducible exact .s (.s (.s (.s (.s .z))))); (first | (with_reducible exact (aggN).size) | (with_reducible exact (oneInt).size) | (with_reducible exact (oneBool).size) | (with_reducible exact (oneU8).size) | (with_reducible exact (oneU16).size)); exact rfl; exact rfl; exact rfl; exact rfl; intro w' HM'; clear HM; have HM := HM'; clear HM'; all_goals skip)
      | (go_at_call 37; refine (rmove_at x W Y x0 x1 HY _).mono ?_; rintro e w' ⟨rfl, hb⟩; have HM' := Lib.hid (HM.out.call hb); clear HM hb; have HM := HM'; clear HM'))
    refine bodyPost_ret (v := .agg #[.int .u8 m, .int .i64 _, .bool _, .int .u16 _]) (own_results HM Tryd.results32 _ rfl (by first | exact .z | exact .s .z) aggN) rfl ⟨rfl, Own.fin HM⟩

end Go.Proofs.YtnkfelflpkbobaaDoor
