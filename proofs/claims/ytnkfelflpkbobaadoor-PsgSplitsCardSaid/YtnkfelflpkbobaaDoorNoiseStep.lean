/-
  Package noise's tick and Step, each by one contract.
-/
import Derived.Test.YtnkfelflpkbobaaDoorNoiseMove
import Derived.Test.YtnkfelflpkbobaaDoorNoiseKinds
namespace Go.Proofs.YtnkfelflpkbobaaDoor
open Go.RowKit

theorem Own.fin {W0 w : World} {l : List (Nat × TypeId × List Value)} (h : Hid (Own W0 w l)) : Below W0.heap.size W0 w := h.out.below
theorem white_of (m : Int) (h0 : 0 ≤ m) (h1 : m < 8) : bits .and .u8 m 4 = m / 4 * 4 := by
  have : bits .and .u8 m 4 = m / 4 % 2 * 4 := by go_bits2
  omega
theorem rate_of (m : Int) (h0 : 0 ≤ m) (h1 : m < 256) : bits .and .u8 m 3 = m % 4 := by go_bits2

/-- is it WHITE? -/
def whiteB (m : Int) : Bool := decide (4 ≤ m)

set_option maxHeartbeats 800000 in
theorem tick_any (m c : Int) (h : Bool) (x : Int) (m0 : 0 ≤ m) (m1 : m < 8) (x0 : 0 ≤ x) (x1 : x < 65536) (w : World) :
    Calls Tryd.prog 36 #[.agg #[.int .u8 m, .int .i64 c, .bool h, .int .u16 x]] w fun e w' =>
      e = .returned (.agg #[.int .u8 m, .int .i64 c, .bool !h, .int .u16 (if h = true then x else moveOf x (whiteB m))]) ∧ Below w.heap.size w w' := by
  have HM := Lib.hid (Own.start w)
  have hw : (bits .and .u8 m 4 != 0) = whiteB m := by
    rw [white_of m m0 m1]; unfold whiteB; rw [Bool.eq_iff_iff, bne_iff_ne, decide_eq_true_eq]; omega
  obtain ⟨W, hW⟩ : ∃ W, W = whiteB m := ⟨_, rfl⟩
  rw [← hW] at hw ⊢
  clear hW
  cases h
  all_goals
    go_enter Tryd.func36, Tryd.ntmps36
    go_wp2_with (first
      | ((with_reducible apply own_box HM); exact rfl; (conv => lhs; whnf); exact rfl; exact rfl; (first | (clear tg1; intro w' g1 HM') | (clear tg2; intro w' g2 HM') | (clear tg3; intro w' g3 HM') | (clear tg4; intro w' g4 HM') | intro w' g' HM'); clear HM; have HM := HM'; clear HM'; all_goals skip) | ((with_reducible apply own_alloc HM); exact rfl; (first | (with_reducible exact zeroN)); exact rfl; (first | (clear tg1; intro w' g1 HM') | (clear tg2; intro w' g2 HM') | (clear tg3; intro w' g3 HM') | (clear tg4; intro w' g4 HM') | intro w' g' HM'); clear HM; have HM := HM'; clear HM'; all_goals skip) | ((with_reducible apply own_cell HM); exact rfl; exact rfl; (first | (with_reducible exact oneBool) | (with_reducible exact oneU8) | (with_reducible exact oneU16)); (first | with_reducible exact .z | with_reducible exact .s .z | with_reducible exact .s (.s .z) | with_reducible exact .s (.s (.s .z)) | with_reducible exact .s (.s (.s (.s .z))) | with_reducible exact .s (.s (.s (.s (.s .z))))); (focus repeat' (first | with_reducible exact .z | with_reducible apply Drop.s)); exact rfl; all_goals skip) | ((with_reducible apply own_load HM); exact rfl; exact rfl; (first | (with_reducible exact aggN)); (first | with_reducible exact .z | with_reducible exact .s .z | with_reducible exact .s (.s .z) | with_reducible exact .s (.s (.s .z)) | with_reducible exact .s (.s (.s (.s .z))) | with_reducible exact .s (.s (.s (.s (.s .z))))); (focus repeat' (first | with_reducible exact .z | with_reducible apply Drop.s)); (focus repeat' (first | with_reducible exact .z | with_reducible apply Take.s)); exact rfl; all_goals skip) | ((with_reducible apply own_store HM); exact rfl; exact rfl; (conv => lhs; whnf); exact rfl; (first | with_reducible exact .z | with_reducible exact .s .z | with_reducible exact .s (.s .z) | with_reducible exact .s (.s (.s .z)) | with_reducible exact .s (.s (.s (.s .z))) | with_reducible exact .s (.s (.s (.s (.s .z))))); (focus repeat' (first | with_reducible exact .z | with_reducible apply Over.p | with_reducible apply Over.s)); (first | with_reducible exact .z | with_reducible exact .s .z | with_reducible exact .s (.s .z) | with_reducible exact .s (.s (.s .z)) | with_reducible exact .s (.s (.s (.s .z))) | with_reducible exact .s (.s (.s (.s (.s .z))))); (first | (with_reducible exact (aggN).size) | (with_reducible exact (oneBool).size) | (with_reducible exact (oneU8).size) | (with_reducible exact (oneU16).size)); exact rfl; exact rfl; exact rfl; exact rfl; intro w' HM'; clear HM; have HM := HM'; clear HM'; all_goals skip)
      | (go_at_call 40; refine (move_any x W x0 x1 _).mono ?_; rintro e w' ⟨rfl, rfl⟩))
    refine bodyPost_ret (v := .agg #[.int .u8 m, .int .i64 c, .bool _, .int .u16 _]) (own_results HM Tryd.results36 _ rfl (by first | exact .z | exact .s .z) aggN) rfl ⟨rfl, Own.fin HM⟩

theorem tick_at (m c : Int) (h : Bool) (x : Int) (m0 : 0 ≤ m) (m1 : m < 8) (x0 : 0 ≤ x) (x1 : x < 65536) (H : Bool) (X : Int) (hh : Hid ((!h) = H ∧ (if h = true then x else moveOf x (whiteB m)) = X)) (w : World) :
    Calls Tryd.prog 36 #[.agg #[.int .u8 m, .int .i64 c, .bool h, .int .u16 x]] w fun e w' =>
      e = .returned (.agg #[.int .u8 m, .int .i64 c, .bool H, .int .u16 X]) ∧ Below w.heap.size w w' := by
  obtain ⟨rfl, rfl⟩ := hh.out
  exact tick_any m c h x m0 m1 x0 x1 w

/-- what a Step makes of Count, Half and Shift -/
def nextCt (m c : Int) : Int := if m % 4 = 3 then c else if 1 < c then c - 1 else if m % 4 = 0 then 16 else if m % 4 = 1 then 32 else 64
def ticksB (m c : Int) (t : Bool) : Bool := if m % 4 = 3 then t else decide (c ≤ 1)
def nextH (m c : Int) (h t : Bool) : Bool := if ticksB m c t = true then !h else h
def nextX (m c : Int) (h : Bool) (x : Int) (t : Bool) : Int := if ticksB m c t = true ∧ h = false then moveOf x (whiteB m) else x

def NextN (m c : Int) (h : Bool) (x : Int) (t : Bool) (C : Int) (H : Bool) (X : Int) : Prop := nextCt m c = C ∧ nextH m c h t = H ∧ nextX m c h x t = X

set_option maxHeartbeats 1600000 in
theorem step_at (m c : Int) (h : Bool) (x : Int) (t : Bool) (C : Int) (H : Bool) (X : Int) (hn : Hid (NextN m c h x t C H X)) (m0 : 0 ≤ m) (m1 : m < 8) (c0 : 0 ≤ c) (c1 : c ≤ 64) (x0 : 0 ≤ x) (x1 : x < 65536) (w : World) :
    Calls Tryd.prog 30 #[.agg #[.int .u8 m, .int .i64 c, .bool h, .int .u16 x], .bool t] w fun e w' =>
      e = .returned (.agg #[.int .u8 m, .int .i64 C, .bool H, .int .u16 X]) ∧ Below w.heap.size w w' := by
  have HM := Lib.hid (Own.start w)
  have hr := rate_of m m0 (by omega)
  obtain ⟨n0, n1, n2⟩ := hn.out
  have cases4 : (m % 4 = 3 ∧ t = false) ∨ (m % 4 = 3 ∧ t = true) ∨ (¬ m % 4 = 3 ∧ 1 < c) ∨ (¬ m % 4 = 3 ∧ ¬ 1 < c) := by cases t <;> simp <;> omega
  rcases cases4 with ⟨h3, rfl⟩ | ⟨h3, rfl⟩ | ⟨h3, hc⟩ | ⟨h3, hc⟩
  · have e0 : c = C := by rw [← n0]; unfold nextCt; rw [if_pos h3]
    have e1 : h = H := by rw [← n1]; unfold nextH ticksB; rw [if_pos h3]; rfl
    have e2 : x = X := by rw [← n2]; unfold nextX ticksB; rw [if_pos h3]; simp
    subst e0 e1 e2
    rw [h3] at hr
    clear h3 n0 n1 n2 hn
    go_enter Tryd.func30, Tryd.ntmps30
    go_wp2_with (first
      | ((with_reducible apply own_box HM); exact rfl; (conv => lhs; whnf); exact rfl; exact rfl; (first | (clear tg1; intro w' g1 HM') | (clear tg2; intro w' g2 HM') | (clear tg3; intro w' g3 HM') | (clear tg4; intro w' g4 HM') | intro w' g' HM'); clear HM; have HM := HM'; clear HM'; all_goals skip) | ((with_reducible apply own_alloc HM); exact rfl; (first | (with_reducible exact zeroN)); exact rfl; (first | (clear tg1; intro w' g1 HM') | (clear tg2; intro w' g2 HM') | (clear tg3; intro w' g3 HM') | (clear tg4; intro w' g4 HM') | intro w' g' HM'); clear HM; have HM := HM'; clear HM'; all_goals skip) | ((with_reducible apply own_cell HM); exact rfl; exact rfl; (first | (with_reducible exact oneInt) | (with_reducible exact oneBool) | (with_reducible exact oneU8) | (with_reducible exact oneU16)); (first | with_reducible exact .z | with_reducible exact .s .z | with_reducible exact .s (.s .z) | with_reducible exact .s (.s (.s .z)) | with_reducible exact .s (.s (.s (.s .z))) | with_reducible exact .s (.s (.s (.s (.s .z))))); (focus repeat' (first | with_reducible exact .z | with_reducible apply Drop.s)); exact rfl; all_goals skip) | ((with_reducible apply own_load HM); exact rfl; exact rfl; (first | (with_reducible exact aggN)); (first | with_reducible exact .z | with_reducible exact .s .z | with_reducible exact .s (.s .z) | with_reducible exact .s (.s (.s .z)) | with_reducible exact .s (.s (.s (.s .z))) | with_reducible exact .s (.s (.s (.s (.s .z))))); (focus repeat' (first | with_reducible exact .z | with_reducible apply Drop.s)); (focus repeat' (first | with_reducible exact .z | with_reducible apply Take.s)); exact rfl; all_goals skip) | ((with_reducible apply own_store HM); exact rfl; exact rfl; (conv => lhs; whnf); exact rfl; (first | with_reducible exact .z | with_reducible exact .s .z | with_reducible exact .s (.s .z) | with_reducible exact .s (.s (.s .z)) | with_reducible exact .s (.s (.s (.s .z))) | with_reducible exact .s (.s (.s (.s (.s .z))))); (focus repeat' (first | with_reducible exact .z | with_reducible apply Over.p | with_reducible apply Over.s)); (first | with_reducible exact .z | with_reducible exact .s .z | with_reducible exact .s (.s .z) | with_reducible exact .s (.s (.s .z)) | with_reducible exact .s (.s (.s (.s .z))) | with_reducible exact .s (.s (.s (.s (.s .z))))); (first | (with_reducible exact (aggN).size) | (with_reducible exact (oneInt).size) | (with_reducible exact (oneBool).size) | (with_reducible exact (oneU8).size) | (with_reducible exact (oneU16).size)); exact rfl; exact rfl; exact rfl; exact rfl; intro w' HM'; clear HM; have HM := HM'; clear HM'; all_goals skip))
    refine bodyPost_ret (v := .agg #[.int .u8 m, .int .i64 c, .bool h, .int .u16 x]) (own_results HM Tryd.results30 _ rfl (by first | exact .z | exact .s .z) aggN) rfl ⟨rfl, Own.fin HM⟩
  · have e0 : c = C := by rw [← n0]; unfold nextCt; rw [if_pos h3]
    have e1 : Hid ((!h) = H ∧ (if h = true then x else moveOf x (whiteB m)) = X) := by
      refine ⟨?_, ?_⟩
      · rw [← n1]; unfold nextH ticksB; rw [if_pos h3]; rfl
      · rw [← n2]; unfold nextX ticksB; rw [if_pos h3]; cases h <;> rfl
    subst e0
    rw [h3] at hr
    clear h3 n0 n1 n2 hn
    go_enter Tryd.func30, Tryd.ntmps30
    go_wp2_with (first
      | ((with_reducible apply own_box HM); exact rfl; (conv => lhs; whnf); exact rfl; exact rfl; (first | (clear tg1; intro w' g1 HM') | (clear tg2; intro w' g2 HM') | (clear tg3; intro w' g3 HM') | (clear tg4; intro w' g4 HM') | intro w' g' HM'); clear HM; have HM := HM'; clear HM'; all_goals skip) | ((with_reducible apply own_alloc HM); exact rfl; (first | (with_reducible exact zeroN)); exact rfl; (first | (clear tg1; intro w' g1 HM') | (clear tg2; intro w' g2 HM') | (clear tg3; intro w' g3 HM') | (clear tg4; intro w' g4 HM') | intro w' g' HM'); clear HM; have HM := HM'; clear HM'; all_goals skip) | ((with_reducible apply own_cell HM); exact rfl; exact rfl; (first | (with_reducible exact oneInt) | (with_reducible exact oneBool) | (with_reducible exact oneU8) | (with_reducible exact oneU16)); (first | with_reducible exact .z | with_reducible exact .s .z | with_reducible exact .s (.s .z) | with_reducible exact .s (.s (.s .z)) | with_reducible exact .s (.s (.s (.s .z))) | with_reducible exact .s (.s (.s (.s (.s .z))))); (focus repeat' (first | with_reducible exact .z | with_reducible apply Drop.s)); exact rfl; all_goals skip) | ((with_reducible apply own_load HM); exact rfl; exact rfl; (first | (with_reducible exact aggN)); (first | with_reducible exact .z | with_reducible exact .s .z | with_reducible exact .s (.s .z) | with_reducible exact .s (.s (.s .z)) | with_reducible exact .s (.s (.s (.s .z))) | with_reducible exact .s (.s (.s (.s (.s .z))))); (focus repeat' (first | with_reducible exact .z | with_reducible apply Drop.s)); (focus repeat' (first | with_reducible exact .z | with_reducible apply Take.s)); exact rfl; all_goals skip) | ((with_reducible apply own_store HM); exact rfl; exact rfl; (conv => lhs; whnf); exact rfl; (first | with_reducible exact .z | with_reducible exact .s .z | with_reducible exact .s (.s .z) | with_reducible exact .s (.s (.s .z)) | with_reducible exact .s (.s (.s (.s .z))) | with_reducible exact .s (.s (.s (.s (.s .z))))); (focus repeat' (first | with_reducible exact .z | with_reducible apply Over.p | with_reducible apply Over.s)); (first | with_reducible exact .z | with_reducible exact .s .z | with_reducible exact .s (.s .z) | with_reducible exact .s (.s (.s .z)) | with_reducible exact .s (.s (.s (.s .z))) | with_reducible exact .s (.s (.s (.s (.s .z))))); (first | (with_reducible exact (aggN).size) | (with_reducible exact (oneInt).size) | (with_reducible exact (oneBool).size) | (with_reducible exact (oneU8).size) | (with_reducible exact (oneU16).size)); exact rfl; exact rfl; exact rfl; exact rfl; intro w' HM'; clear HM; have HM := HM'; clear HM'; all_goals skip)
      | (go_at_call 36; refine (tick_at m c h x m0 m1 x0 x1 H X e1 _).mono ?_; rintro e w' ⟨rfl, hb⟩; have HM' := Lib.hid (HM.out.call hb); clear HM hb; have HM := HM'; clear HM'))
    refine bodyPost_ret (v := .agg #[.int .u8 m, .int .i64 c, .bool H, .int .u16 X]) (own_results HM Tryd.results30 _ rfl (by first | exact .z | exact .s .z) aggN) rfl ⟨rfl, Own.fin HM⟩
  · have e0 : Hid (c - 1 = C) := by show _ = _; rw [← n0]; unfold nextCt; rw [if_neg h3, if_pos hc]
    have e1 : h = H := by rw [← n1]; unfold nextH ticksB; rw [if_neg h3, if_neg (by simp; omega)]
    have e2 : x = X := by rw [← n2]; unfold nextX ticksB; rw [if_neg h3, if_neg (by simp; omega)]
    subst e1 e2
    have hr3 : (m % 4 == 3) = false := by simpa using h3
    clear n0 n1 n2 hn
    go_enter Tryd.func30, Tryd.ntmps30
    go_wp2_with (first
      | ((with_reducible apply own_box HM); exact rfl; (conv => lhs; whnf); exact rfl; exact rfl; (first | (clear tg1; intro w' g1 HM') | (clear tg2; intro w' g2 HM') | (clear tg3; intro w' g3 HM') | (clear tg4; intro w' g4 HM') | intro w' g' HM'); clear HM; have HM := HM'; clear HM'; all_goals skip) | ((with_reducible apply own_alloc HM); exact rfl; (first | (with_reducible exact zeroN)); exact rfl; (first | (clear tg1; intro w' g1 HM') | (clear tg2; intro w' g2 HM') | (clear tg3; intro w' g3 HM') | (clear tg4; intro w' g4 HM') | intro w' g' HM'); clear HM; have HM := HM'; clear HM'; all_goals skip) | ((with_reducible apply own_cell HM); exact rfl; exact rfl; (first | (with_reducible exact oneInt) | (with_reducible exact oneBool) | (with_reducible exact oneU8) | (with_reducible exact oneU16)); (first | with_reducible exact .z | with_reducible exact .s .z | with_reducible exact .s (.s .z) | with_reducible exact .s (.s (.s .z)) | with_reducible exact .s (.s (.s (.s .z))) | with_reducible exact .s (.s (.s (.s (.s .z))))); (focus repeat' (first | with_reducible exact .z | with_reducible apply Drop.s)); exact rfl; all_goals skip) | ((with_reducible apply own_load HM); exact rfl; exact rfl; (first | (with_reducible exact aggN)); (first | with_reducible exact .z | with_reducible exact .s .z | with_reducible exact .s (.s .z) | with_reducible exact .s (.s (.s .z)) | with_reducible exact .s (.s (.s (.s .z))) | with_reducible exact .s (.s (.s (.s (.s .z))))); (focus repeat' (first | with_reducible exact .z | with_reducible apply Drop.s)); (focus repeat' (first | with_reducible exact .z | with_reducible apply Take.s)); exact rfl; all_goals skip) | ((with_reducible apply own_store HM); exact rfl; exact rfl; (conv => lhs; whnf); exact rfl; (first | with_reducible exact .z | with_reducible exact .s .z | with_reducible exact .s (.s .z) | with_reducible exact .s (.s (.s .z)) | with_reducible exact .s (.s (.s (.s .z))) | with_reducible exact .s (.s (.s (.s (.s .z))))); (focus repeat' (first | with_reducible exact .z | with_reducible apply Over.p | with_reducible apply Over.s)); (first | with_reducible exact .z | with_reducible exact .s .z | with_reducible exact .s (.s .z) | with_reducible exact .s (.s (.s .z)) | with_reducible exact .s (.s (.s (.s .z))) | with_reducible exact .s (.s (.s (.s (.s .z))))); (first | (with_reducible exact (aggN).size) | (with_reducible exact (oneInt).size) | (with_reducible exact (oneBool).size) | (with_reducible exact (oneU8).size) | (with_reducible exact (oneU16).size)); exact rfl; exact rfl; exact rfl; exact rfl; intro w' HM'; clear HM; have HM := HM'; clear HM'; all_goals skip))
    rw [← e0.out]
    refine bodyPost_ret (v := .agg #[.int .u8 m, .int .i64 (c - 1), .bool h, .int .u16 x]) (own_results HM Tryd.results30 _ rfl (by first | exact .z | exact .s .z) aggN) rfl ⟨rfl, Own.fin HM⟩
  · have e1 : Hid ((!h) = H ∧ (if h = true then x else moveOf x (whiteB m)) = X) := by
      have hd : decide (c ≤ 1) = true := by simp; omega
      refine ⟨?_, ?_⟩
      · rw [← n1]; unfold nextH ticksB; rw [if_neg h3, hd]; rfl
      · rw [← n2]; unfold nextX ticksB; rw [if_neg h3, hd]; cases h <;> rfl
    have hr3 : (m % 4 == 3) = false := by simpa using h3
    have ek : (m % 4 = 0 ∧ C = 16) ∨ (m % 4 = 1 ∧ C = 32) ∨ (m % 4 = 2 ∧ C = 64) := by
      rw [← n0]; unfold nextCt; rw [if_neg h3, if_neg hc]
      rcases (show m % 4 = 0 ∨ m % 4 = 1 ∨ m % 4 = 2 by omega) with hk | hk | hk
      · left; exact ⟨hk, by rw [if_pos hk]⟩
      · right; left; exact ⟨hk, by rw [if_neg (by omega), if_pos hk]⟩
      · right; right; exact ⟨hk, by rw [if_neg (by omega), if_neg (by omega)]⟩
    clear n0 n1 n2 hn
    rcases ek with ⟨hk, rfl⟩ | ⟨hk, rfl⟩ | ⟨hk, rfl⟩
    all_goals
      rw [hk] at hr
      clear h3 hk hr3
      go_enter Tryd.func30, Tryd.ntmps30
      go_wp2_with (first
        | ((with_reducible apply own_box HM); exact rfl; (conv => lhs; whnf); exact rfl; exact rfl; (first | (clear tg1; intro w' g1 HM') | (clear tg2; intro w' g2 HM') | (clear tg3; intro w' g3 HM') | (clear tg4; intro w' g4 HM') | intro w' g' HM'); clear HM; have HM := HM'; clear HM'; all_goals skip) | ((with_reducible apply own_alloc HM); exact rfl; (first | (with_reducible exact zeroN)); exact rfl; (first | (clear tg1; intro w' g1 HM') | (clear tg2; intro w' g2 HM') | (clear tg3; intro w' g3 HM') | (clear tg4; intro w' g4 HM') | intro w' g' HM'); clear HM; have HM := HM'; clear HM'; all_goals skip) | ((with_reducible apply own_cell HM); exact rfl; exact rfl; (first | (with_reducible exact oneInt) | (with_reducible exact oneBool) | (with_reducible exact oneU8) | (with_reducible exact oneU16)); (first | with_reducible exact .z | with_reducible exact .s .z | with_reducible exact .s (.s .z) | with_reducible exact .s (.s (.s .z)) | with_reducible exact .s (.s (.s (.s .z))) | with_reducible exact .s (.s (.s (.s (.s .z))))); (focus repeat' (first | with_reducible exact .z | with_reducible apply Drop.s)); exact rfl; all_goals skip) | ((with_reducible apply own_load HM); exact rfl; exact rfl; (first | (with_reducible exact aggN)); (first | with_reducible exact .z | with_reducible exact .s .z | with_reducible exact .s (.s .z) | with_reducible exact .s (.s (.s .z)) | with_reducible exact .s (.s (.s (.s .z))) | with_reducible exact .s (.s (.s (.s (.s .z))))); (focus repeat' (first | with_reducible exact .z | with_reducible apply Drop.s)); (focus repeat' (first | with_reducible exact .z | with_reducible apply Take.s)); exact rfl; all_goals skip) | ((with_reducible apply own_store HM); exact rfl; exact rfl; (conv => lhs; whnf); exact rfl; (first | with_reducible exact .z | with_reducible exact .s .z | with_reducible exact .s (.s .z) | with_reducible exact .s (.s (.s .z)) | with_reducible exact .s (.s (.s (.s .z))) | with_reducible exact .s (.s (.s (.s (.s .z))))); (focus repeat' (first | with_reducible exact .z | with_reducible apply Over.p | with_reducible apply Over.s)); (first | with_reducible exact .z | with_reducible exact .s .z | with_reducible exact .s (.s .z) | with_reducible exact .s (.s (.s .z)) | with_reducible exact .s (.s (.s (.s .z))) | with_reducible exact .s (.s (.s (.s (.s .z))))); (first | (with_reducible exact (aggN).size) | (with_reducible exact (oneInt).size) | (with_reducible exact (oneBool).size) | (with_reducible exact (oneU8).size) | (with_reducible exact (oneU16).size)); exact rfl; exact rfl; exact rfl; exact rfl; intro w' HM'; clear HM; have HM := HM'; clear HM'; all_goals skip)
        | (go_at_call 36; refine (tick_at m _ h x m0 m1 x0 x1 H X e1 _).mono ?_; rintro e w' ⟨rfl, hb⟩; have HM' := Lib.hid (HM.out.call hb); clear HM hb; have HM := HM'; clear HM'))
      refine bodyPost_ret (v := .agg #[.int .u8 m, .int .i64 _, .bool H, .int .u16 X]) (own_results HM Tryd.results30 _ rfl (by first | exact .z | exact .s .z) aggN) rfl ⟨rfl, Own.fin HM⟩

end Go.Proofs.YtnkfelflpkbobaaDoor
