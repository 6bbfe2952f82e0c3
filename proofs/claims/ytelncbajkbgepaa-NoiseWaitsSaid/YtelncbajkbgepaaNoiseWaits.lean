/-
  The law NoiseWaits returns true for any noise, and writes nothing that was there.
-/
import Derived.Test.YtelncbajkbgepaaNoiseNames
import Derived.Test.YtelncbajkbgepaaTicks
import Derived.RegionTactic
namespace Go.Proofs.Ytelncbajkbgepaa
open Go.RowKit

theorem waits_wrong (m c : Int) (h : Bool) (x : Int) (m0 : 0 ≤ m) (x0 : 0 ≤ x) (hb : rightB m c x = false) (w : World) :
    Calls Try.prog 7 #[.agg #[.int .u8 m, .int .i64 c, .bool h, .int .u16 x]] w fun e w' => e = .returned (.bool true) ∧ Below w.heap.size w w' := by
  have HM := Lib.hid (Own.start w)
  go_enter Try.func7, Try.ntmps7
  go_wp2_with (first
    | ((with_reducible apply own_box HM); exact rfl; (conv => lhs; whnf); exact rfl; exact rfl; (first | (clear tg1; intro w' g1 HM') | (clear tg2; intro w' g2 HM') | (clear tg3; intro w' g3 HM') | (clear tg4; intro w' g4 HM') | intro w' g' HM'); clear HM; have HM := HM'; clear HM'; all_goals skip) | ((with_reducible apply own_alloc HM); exact rfl; (first | (with_reducible exact zeroN)); exact rfl; (first | (clear tg1; intro w' g1 HM') | (clear tg2; intro w' g2 HM') | (clear tg3; intro w' g3 HM') | (clear tg4; intro w' g4 HM') | intro w' g' HM'); clear HM; have HM := HM'; clear HM'; all_goals skip) | ((with_reducible apply own_cell HM); exact rfl; exact rfl; (first | (with_reducible exact oneInt) | (with_reducible exact oneBool) | (with_reducible exact oneU8) | (with_reducible exact oneU16)); (first | with_reducible exact .z | with_reducible exact .s .z | with_reducible exact .s (.s .z) | with_reducible exact .s (.s (.s .z)) | with_reducible exact .s (.s (.s (.s .z))) | with_reducible exact .s (.s (.s (.s (.s .z))))); (focus repeat' (first | with_reducible exact .z | with_reducible apply Drop.s)); exact rfl; all_goals skip) | ((with_reducible apply own_load HM); exact rfl; exact rfl; (first | (with_reducible exact aggN)); (first | with_reducible exact .z | with_reducible exact .s .z | with_reducible exact .s (.s .z) | with_reducible exact .s (.s (.s .z)) | with_reducible exact .s (.s (.s (.s .z))) | with_reducible exact .s (.s (.s (.s (.s .z))))); (focus repeat' (first | with_reducible exact .z | with_reducible apply Drop.s)); (focus repeat' (first | with_reducible exact .z | with_reducible apply Take.s)); exact rfl; all_goals skip) | ((with_reducible apply own_store HM); exact rfl; exact rfl; (conv => lhs; whnf); exact rfl; (first | with_reducible exact .z | with_reducible exact .s .z | with_reducible exact .s (.s .z) | with_reducible exact .s (.s (.s .z)) | with_reducible exact .s (.s (.s (.s .z))) | with_reducible exact .s (.s (.s (.s (.s .z))))); (focus repeat' (first | with_reducible exact .z | with_reducible apply Over.p | with_reducible apply Over.s)); (first | with_reducible exact .z | with_reducible exact .s .z | with_reducible exact .s (.s .z) | with_reducible exact .s (.s (.s .z)) | with_reducible exact .s (.s (.s (.s .z))) | with_reducible exact .s (.s (.s (.s (.s .z))))); (first | (with_reducible exact (aggN).size) | (with_reducible exact (oneInt).size) | (with_reducible exact (oneBool).size) | (with_reducible exact (oneU8).size) | (with_reducible exact (oneU16).size)); exact rfl; exact rfl; exact rfl; intro w' HM'; clear HM; have HM := HM'; clear HM'; all_goals skip)
    | (go_at_call 9; refine (noiseAlive_any _).mono ?_; rintro e w1 ⟨rfl, rfl⟩)
    | (go_at_call 10; refine (right_at m c h x false hb m0 x0 _).mono ?_; rintro e w2 ⟨rfl, hb⟩; have HM' := Lib.hid (HM.out.call hb); clear HM hb; have HM := HM'; clear HM'))
  go_ret
  exact ⟨rfl, Own.fin HM⟩

set_option maxRecDepth 100000 in
set_option maxHeartbeats 1600000 in
theorem waits_some (m c : Int) (h : Bool) (x : Int) (m0 : 0 ≤ m) (m1 : m < 8) (c0 : 0 ≤ c) (c1 : c ≤ 64) (x0 : 0 < x) (x1 : x < 65536) (hr : rightB m c x = true) (w : World) :
    Calls Try.prog 7 #[.agg #[.int .u8 m, .int .i64 c, .bool h, .int .u16 x]] w fun e w' => e = .returned (.bool true) ∧ Below w.heap.size w w' := by
  have HM := Lib.hid (Own.start w)
  have x00 : 0 ≤ x := by omega
  have HR := Lib.hid hr
  clear hr
  have tg1 : Hid True := trivial
  have tg2 : Hid True := trivial
  go_enter Try.func7, Try.ntmps7
  go_wp2_with (first
    | ((with_reducible apply own_box HM); exact rfl; (conv => lhs; whnf); exact rfl; exact rfl; (first | (clear tg1; intro w' g1 HM') | (clear tg2; intro w' g2 HM') | (clear tg3; intro w' g3 HM') | (clear tg4; intro w' g4 HM') | intro w' g' HM'); clear HM; have HM := HM'; clear HM'; all_goals skip) | ((with_reducible apply own_alloc HM); exact rfl; (first | (with_reducible exact zeroN)); exact rfl; (first | (clear tg1; intro w' g1 HM') | (clear tg2; intro w' g2 HM') | (clear tg3; intro w' g3 HM') | (clear tg4; intro w' g4 HM') | intro w' g' HM'); clear HM; have HM := HM'; clear HM'; all_goals skip) | ((with_reducible apply own_cell HM); exact rfl; exact rfl; (first | (with_reducible exact oneInt) | (with_reducible exact oneBool) | (with_reducible exact oneU8) | (with_reducible exact oneU16)); (first | with_reducible exact .z | with_reducible exact .s .z | with_reducible exact .s (.s .z) | with_reducible exact .s (.s (.s .z)) | with_reducible exact .s (.s (.s (.s .z))) | with_reducible exact .s (.s (.s (.s (.s .z))))); (focus repeat' (first | with_reducible exact .z | with_reducible apply Drop.s)); exact rfl; all_goals skip) | ((with_reducible apply own_load HM); exact rfl; exact rfl; (first | (with_reducible exact aggN)); (first | with_reducible exact .z | with_reducible exact .s .z | with_reducible exact .s (.s .z) | with_reducible exact .s (.s (.s .z)) | with_reducible exact .s (.s (.s (.s .z))) | with_reducible exact .s (.s (.s (.s (.s .z))))); (focus repeat' (first | with_reducible exact .z | with_reducible apply Drop.s)); (focus repeat' (first | with_reducible exact .z | with_reducible apply Take.s)); exact rfl; all_goals skip) | ((with_reducible apply own_store HM); exact rfl; exact rfl; (conv => lhs; whnf); exact rfl; (first | with_reducible exact .z | with_reducible exact .s .z | with_reducible exact .s (.s .z) | with_reducible exact .s (.s (.s .z)) | with_reducible exact .s (.s (.s (.s .z))) | with_reducible exact .s (.s (.s (.s (.s .z))))); (focus repeat' (first | with_reducible exact .z | with_reducible apply Over.p | with_reducible apply Over.s)); (first | with_reducible exact .z | with_reducible exact .s .z | with_reducible exact .s (.s .z) | with_reducible exact .s (.s (.s .z)) | with_reducible exact .s (.s (.s (.s .z))) | with_reducible exact .s (.s (.s (.s (.s .z))))); (first | (with_reducible exact (aggN).size) | (with_reducible exact (oneInt).size) | (with_reducible exact (oneBool).size) | (with_reducible exact (oneU8).size) | (with_reducible exact (oneU16).size)); exact rfl; exact rfl; exact rfl; intro w' HM'; clear HM; have HM := HM'; clear HM'; all_goals skip)
    | (go_at_call 9; refine (noiseAlive_any _).mono ?_; rintro e w1 ⟨rfl, rfl⟩)
    | (go_at_call 10; refine (right_at m c h x true HR.out m0 x00 _).mono ?_; rintro e w2 ⟨rfl, hb⟩; have HM' := Lib.hid (HM.out.call hb); clear HM hb; have HM := HM'; clear HM'))
  have e0 := (HM.out.at_ .z).at_ 0
  have e1 := (HM.out.at_ .z).at_ 1
  have e2 := (HM.out.at_ .z).at_ 2
  have e3 := (HM.out.at_ .z).at_ 3
  simp only [List.getElem?_cons_zero, List.getElem?_cons_succ] at e0 e1 e2 e3
  have hl := (HM.out.at_ .z).inside
  go_region
  have HN := Lib.hid ((HM.out.new 24 [.int .u8 m, .int .i64 c, .bool h, .int .u16 x]).drew)
  go_wp2_with fail
  generalize (w2.alloc (.cells #[.int .u8 m, .int .i64 c, .bool h, .int .u16 x] 24)).drew = W at HN ⊢
  generalize w2.heap.size = gl at HN ⊢
  clear HM e0 e1 e2 e3 hl
  -- a tone's rate: nothing turns
  by_cases h3 : m % 4 = 3
  · have hr := rate_of m m0 (by omega)
    rw [h3] at hr
    have hstep : Hid (NextN m c h x false c h x) := by
      refine ⟨?_, ?_, ?_⟩
      · unfold nextCt; rw [if_pos h3]
      · unfold nextH ticksB; rw [if_pos h3]; rfl
      · unfold nextX ticksB; rw [if_pos h3]; simp
    clear h3
    go_loopw [3, 5] (fun mv i wr => ∃ k : Nat, k ≤ 128 ∧ i = .int .i64 k ∧ mv = .int .i64 0 ∧ Hid (Own w wr [(gl, 24, [.int .u8 m, .int .i64 c, .bool h, .int .u16 x]), (g1, 24, [.int .u8 m, .int .i64 c, .bool h, .int .u16 x])])) (fun _ i _ => 128 - (intOf i).toNat)
    case atStart => exact ⟨0, by omega, rfl, rfl, HN⟩
    case round =>
      obtain ⟨k, hk, rfl, rfl, HM⟩ := hrel
      clear HN
      by_cases hlt : k < 128
      · cases h
        all_goals
          go_wp2_with (first
            | ((with_reducible apply own_box HM); exact rfl; (conv => lhs; whnf); exact rfl; exact rfl; (first | (clear tg1; intro w' g1 HM') | (clear tg2; intro w' g2 HM') | (clear tg3; intro w' g3 HM') | (clear tg4; intro w' g4 HM') | intro w' g' HM'); clear HM; have HM := HM'; clear HM'; all_goals skip) | ((with_reducible apply own_alloc HM); exact rfl; (first | (with_reducible exact zeroN)); exact rfl; (first | (clear tg1; intro w' g1 HM') | (clear tg2; intro w' g2 HM') | (clear tg3; intro w' g3 HM') | (clear tg4; intro w' g4 HM') | intro w' g' HM'); clear HM; have HM := HM'; clear HM'; all_goals skip) | ((with_reducible apply own_cell HM); exact rfl; exact rfl; (first | (with_reducible exact oneInt) | (with_reducible exact oneBool) | (with_reducible exact oneU8) | (with_reducible exact oneU16)); (first | with_reducible exact .z | with_reducible exact .s .z | with_reducible exact .s (.s .z) | with_reducible exact .s (.s (.s .z)) | with_reducible exact .s (.s (.s (.s .z))) | with_reducible exact .s (.s (.s (.s (.s .z))))); (focus repeat' (first | with_reducible exact .z | with_reducible apply Drop.s)); exact rfl; all_goals skip) | ((with_reducible apply own_load HM); exact rfl; exact rfl; (first | (with_reducible exact aggN)); (first | with_reducible exact .z | with_reducible exact .s .z | with_reducible exact .s (.s .z) | with_reducible exact .s (.s (.s .z)) | with_reducible exact .s (.s (.s (.s .z))) | with_reducible exact .s (.s (.s (.s (.s .z))))); (focus repeat' (first | with_reducible exact .z | with_reducible apply Drop.s)); (focus repeat' (first | with_reducible exact .z | with_reducible apply Take.s)); exact rfl; all_goals skip) | ((with_reducible apply own_store HM); exact rfl; exact rfl; (conv => lhs; whnf); exact rfl; (first | with_reducible exact .z | with_reducible exact .s .z | with_reducible exact .s (.s .z) | with_reducible exact .s (.s (.s .z)) | with_reducible exact .s (.s (.s (.s .z))) | with_reducible exact .s (.s (.s (.s (.s .z))))); (focus repeat' (first | with_reducible exact .z | with_reducible apply Over.p | with_reducible apply Over.s)); (first | with_reducible exact .z | with_reducible exact .s .z | with_reducible exact .s (.s .z) | with_reducible exact .s (.s (.s .z)) | with_reducible exact .s (.s (.s (.s .z))) | with_reducible exact .s (.s (.s (.s (.s .z))))); (first | (with_reducible exact (aggN).size) | (with_reducible exact (oneInt).size) | (with_reducible exact (oneBool).size) | (with_reducible exact (oneU8).size) | (with_reducible exact (oneU16).size)); exact rfl; exact rfl; exact rfl; intro w' HM'; clear HM; have HM := HM'; clear HM'; all_goals skip)
            | (go_at_call 14; refine (step_at m c _ x false c _ x hstep m0 m1 c0 c1 x00 x1 _).mono ?_; rintro e w2 ⟨rfl, hb⟩; have HM' := Lib.hid (HM.out.call hb); clear HM hb; have HM := HM'; clear HM'))
          go_roundw
          case rel => exact ⟨k + 1, by omega, by go_num, rfl, HM.out.forget⟩
          case measure => simp [intOf]; omega
      · have hs := noise_same m c h x
        go_wp2_with (first
          | ((with_reducible apply own_box HM); exact rfl; (conv => lhs; whnf); exact rfl; exact rfl; (first | (clear tg1; intro w' g1 HM') | (clear tg2; intro w' g2 HM') | (clear tg3; intro w' g3 HM') | (clear tg4; intro w' g4 HM') | intro w' g' HM'); clear HM; have HM := HM'; clear HM'; all_goals skip) | ((with_reducible apply own_alloc HM); exact rfl; (first | (with_reducible exact zeroN)); exact rfl; (first | (clear tg1; intro w' g1 HM') | (clear tg2; intro w' g2 HM') | (clear tg3; intro w' g3 HM') | (clear tg4; intro w' g4 HM') | intro w' g' HM'); clear HM; have HM := HM'; clear HM'; all_goals skip) | ((with_reducible apply own_cell HM); exact rfl; exact rfl; (first | (with_reducible exact oneInt) | (with_reducible exact oneBool) | (with_reducible exact oneU8) | (with_reducible exact oneU16)); (first | with_reducible exact .z | with_reducible exact .s .z | with_reducible exact .s (.s .z) | with_reducible exact .s (.s (.s .z)) | with_reducible exact .s (.s (.s (.s .z))) | with_reducible exact .s (.s (.s (.s (.s .z))))); (focus repeat' (first | with_reducible exact .z | with_reducible apply Drop.s)); exact rfl; all_goals skip) | ((with_reducible apply own_load HM); exact rfl; exact rfl; (first | (with_reducible exact aggN)); (first | with_reducible exact .z | with_reducible exact .s .z | with_reducible exact .s (.s .z) | with_reducible exact .s (.s (.s .z)) | with_reducible exact .s (.s (.s (.s .z))) | with_reducible exact .s (.s (.s (.s (.s .z))))); (focus repeat' (first | with_reducible exact .z | with_reducible apply Drop.s)); (focus repeat' (first | with_reducible exact .z | with_reducible apply Take.s)); exact rfl; all_goals skip) | ((with_reducible apply own_store HM); exact rfl; exact rfl; (conv => lhs; whnf); exact rfl; (first | with_reducible exact .z | with_reducible exact .s .z | with_reducible exact .s (.s .z) | with_reducible exact .s (.s (.s .z)) | with_reducible exact .s (.s (.s (.s .z))) | with_reducible exact .s (.s (.s (.s (.s .z))))); (focus repeat' (first | with_reducible exact .z | with_reducible apply Over.p | with_reducible apply Over.s)); (first | with_reducible exact .z | with_reducible exact .s .z | with_reducible exact .s (.s .z) | with_reducible exact .s (.s (.s .z)) | with_reducible exact .s (.s (.s (.s .z))) | with_reducible exact .s (.s (.s (.s (.s .z))))); (first | (with_reducible exact (aggN).size) | (with_reducible exact (oneInt).size) | (with_reducible exact (oneBool).size) | (with_reducible exact (oneU8).size) | (with_reducible exact (oneU16).size)); exact rfl; exact rfl; exact rfl; intro w' HM'; clear HM; have HM := HM'; clear HM'; all_goals skip))
        go_ret
        exact ⟨rfl, Own.fin HM⟩
  · obtain ⟨P, hP⟩ : ∃ P : Int, (m % 4 = 0 ∧ P = 16) ∨ (m % 4 = 1 ∧ P = 32) ∨ (m % 4 = 2 ∧ P = 64) := by
      rcases (show m % 4 = 0 ∨ m % 4 = 1 ∨ m % 4 = 2 by omega) with hk | hk | hk
      · exact ⟨16, .inl ⟨hk, rfl⟩⟩
      · exact ⟨32, .inr (.inl ⟨hk, rfl⟩)⟩
      · exact ⟨64, .inr (.inr ⟨hk, rfl⟩)⟩
    have P2 : 2 ≤ P := by omega
    have P64 : P ≤ 64 := by omega
    have HP := Lib.hid hP
    have H3 := Lib.hid h3
    have HR2 := Lib.hid (rate_of m m0 (by omega))
    clear hP h3
    go_loopw [3, 5] (fun mv i wr => ∃ (k : Nat) (X : Int), k ≤ 128 ∧ 0 ≤ X ∧ X < 65536 ∧ i = .int .i64 k ∧ mv = .int .i64 (upsAt h (tn P c k)) ∧ Hid (Own w wr [(gl, 24, [.int .u8 m, .int .i64 (tc P c k), .bool (halfAt h (tn P c k)), .int .u16 X]), (g1, 24, [.int .u8 m, .int .i64 c, .bool h, .int .u16 x])])) (fun _ i _ => 128 - (intOf i).toNat)
    case atStart =>
      obtain ⟨z1, z2⟩ := tc_zero P c c0
      refine ⟨0, x, by omega, x00, x1, rfl, ?_, ?_⟩
      · rw [show ((0 : Nat) : Int) = 0 from rfl, z2]; unfold upsAt; cases h <;> rfl
      · show Own _ _ _
        rw [show ((0 : Nat) : Int) = 0 from rfl, z1, z2]
        rw [show halfAt h 0 = h by cases h <;> rfl]
        exact HN.out
    case round =>
      obtain ⟨k, X, hk, X0, X1, rfl, rfl, HM⟩ := hrel
      clear HN
      by_cases hlt : k < 128
      · obtain ⟨b0, b1⟩ := tc_bd P c k 64 P2 P64 c0 c1 (by omega)
        obtain ⟨t0, t1⟩ := tn_bd P c k P2 (by omega)
        have hu0 : 0 ≤ upsAt h (tn P c k) ∧ upsAt h (tn P c k) ≤ 200 := by unfold upsAt; split <;> omega
        have HH := Lib.hid (half_next h (tn P c k) t0)
        have HK : Hid ((↑(k + 1) : Int) = k + 1) := by show _ = _; omega
        have hnx := tc_next P c k P2 c0 (by omega)
        rw [← HK.out] at hnx
        obtain ⟨C, hC⟩ : ∃ C, C = tc P c k := ⟨_, rfl⟩
        obtain ⟨T, hT⟩ : ∃ T, T = tn P c k := ⟨_, rfl⟩
        rw [← hC, ← hT] at hnx
        rw [← hT] at HH hu0 t0 t1
        rw [← hC] at b0 b1
        rw [← hC, ← hT] at HM
        rw [← hT]
        obtain ⟨H, hH⟩ : ∃ H, H = halfAt h T := ⟨_, rfl⟩
        obtain ⟨M, hM⟩ : ∃ M, M = upsAt h T := ⟨_, rfl⟩
        rw [← hH, ← hM] at HH
        rw [← hH] at HM
        rw [← hM] at hu0 ⊢
        obtain ⟨u0, u1⟩ := hu0
        have HHT := Lib.hid hH
        have HMT := Lib.hid hM
        clear hC hT hH hM
        rcases hnx with ⟨q1, q2, q3⟩ | ⟨q1, q2, q3⟩
        · have Q2 := Lib.hid q2
          have Q3 := Lib.hid q3
          have hstep : Hid (NextN m C H X false (C - 1) H X) := by
            refine ⟨?_, ?_, ?_⟩
            · unfold nextCt; rw [if_neg H3.out, if_pos q1]
            · unfold nextH ticksB; rw [if_neg H3.out, if_neg (by simp; omega)]
            · unfold nextX ticksB; rw [if_neg H3.out, if_neg (by simp; omega)]
          clear q2 q3
          cases H
          all_goals
            go_wp2_with (first
              | ((with_reducible apply own_box HM); exact rfl; (conv => lhs; whnf); exact rfl; exact rfl; (first | (clear tg1; intro w' g1 HM') | (clear tg2; intro w' g2 HM') | (clear tg3; intro w' g3 HM') | (clear tg4; intro w' g4 HM') | intro w' g' HM'); clear HM; have HM := HM'; clear HM'; all_goals skip) | ((with_reducible apply own_alloc HM); exact rfl; (first | (with_reducible exact zeroN)); exact rfl; (first | (clear tg1; intro w' g1 HM') | (clear tg2; intro w' g2 HM') | (clear tg3; intro w' g3 HM') | (clear tg4; intro w' g4 HM') | intro w' g' HM'); clear HM; have HM := HM'; clear HM'; all_goals skip) | ((with_reducible apply own_cell HM); exact rfl; exact rfl; (first | (with_reducible exact oneInt) | (with_reducible exact oneBool) | (with_reducible exact oneU8) | (with_reducible exact oneU16)); (first | with_reducible exact .z | with_reducible exact .s .z | with_reducible exact .s (.s .z) | with_reducible exact .s (.s (.s .z)) | with_reducible exact .s (.s (.s (.s .z))) | with_reducible exact .s (.s (.s (.s (.s .z))))); (focus repeat' (first | with_reducible exact .z | with_reducible apply Drop.s)); exact rfl; all_goals skip) | ((with_reducible apply own_load HM); exact rfl; exact rfl; (first | (with_reducible exact aggN)); (first | with_reducible exact .z | with_reducible exact .s .z | with_reducible exact .s (.s .z) | with_reducible exact .s (.s (.s .z)) | with_reducible exact .s (.s (.s (.s .z))) | with_reducible exact .s (.s (.s (.s (.s .z))))); (focus repeat' (first | with_reducible exact .z | with_reducible apply Drop.s)); (focus repeat' (first | with_reducible exact .z | with_reducible apply Take.s)); exact rfl; all_goals skip) | ((with_reducible apply own_store HM); exact rfl; exact rfl; (conv => lhs; whnf); exact rfl; (first | with_reducible exact .z | with_reducible exact .s .z | with_reducible exact .s (.s .z) | with_reducible exact .s (.s (.s .z)) | with_reducible exact .s (.s (.s (.s .z))) | with_reducible exact .s (.s (.s (.s (.s .z))))); (focus repeat' (first | with_reducible exact .z | with_reducible apply Over.p | with_reducible apply Over.s)); (first | with_reducible exact .z | with_reducible exact .s .z | with_reducible exact .s (.s .z) | with_reducible exact .s (.s (.s .z)) | with_reducible exact .s (.s (.s (.s .z))) | with_reducible exact .s (.s (.s (.s (.s .z))))); (first | (with_reducible exact (aggN).size) | (with_reducible exact (oneInt).size) | (with_reducible exact (oneBool).size) | (with_reducible exact (oneU8).size) | (with_reducible exact (oneU16).size)); exact rfl; exact rfl; exact rfl; intro w' HM'; clear HM; have HM := HM'; clear HM'; all_goals skip)
              | (go_at_call 14; refine (step_at m C _ X false (C - 1) _ X hstep m0 m1 b0 b1 X0 X1 _).mono ?_; rintro e w2 ⟨rfl, hb⟩; have HM' := Lib.hid (HM.out.call hb); clear HM hb; have HM := HM'; clear HM'))
            go_roundw
            case rel =>
              refine ⟨k + 1, X, by omega, X0, X1, by go_num, by rw [Q3.out, ← HMT.out], ?_⟩
              show Own _ _ _
              rw [Q2.out, Q3.out, ← HHT.out]
              exact HM.out.forget
            case measure => simp [intOf]; omega
        · have Q2 := Lib.hid q2
          have Q3 := Lib.hid q3
          have p0 : 0 ≤ P := by omega
          obtain ⟨Y, hY⟩ : ∃ Y, Y = nextX m C H X false := ⟨_, rfl⟩
          have hYb : 0 ≤ Y ∧ Y < 65536 := by
            rw [hY]; unfold nextX; split
            · exact moveOf_bd _ _ X0 X1
            · exact ⟨X0, X1⟩
          obtain ⟨Y0, Y1⟩ := hYb
          have hstep : Hid (NextN m C H X false P (!H) Y) := by
            refine ⟨?_, ?_, hY.symm⟩
            · unfold nextCt
              rw [if_neg H3.out, if_neg (by omega)]
              rcases HP.out with ⟨e1, e2⟩ | ⟨e1, e2⟩ | ⟨e1, e2⟩
              · rw [if_pos e1, e2]
              · rw [if_neg (by omega), if_pos e1, e2]
              · rw [if_neg (by omega), if_neg (by omega), e2]
            · unfold nextH ticksB; rw [if_neg H3.out, if_pos (by simp; omega)]
          clear q2 q3 hY
          cases H
          all_goals
            go_wp2_with (first
              | ((with_reducible apply own_box HM); exact rfl; (conv => lhs; whnf); exact rfl; exact rfl; (first | (clear tg1; intro w' g1 HM') | (clear tg2; intro w' g2 HM') | (clear tg3; intro w' g3 HM') | (clear tg4; intro w' g4 HM') | intro w' g' HM'); clear HM; have HM := HM'; clear HM'; all_goals skip) | ((with_reducible apply own_alloc HM); exact rfl; (first | (with_reducible exact zeroN)); exact rfl; (first | (clear tg1; intro w' g1 HM') | (clear tg2; intro w' g2 HM') | (clear tg3; intro w' g3 HM') | (clear tg4; intro w' g4 HM') | intro w' g' HM'); clear HM; have HM := HM'; clear HM'; all_goals skip) | ((with_reducible apply own_cell HM); exact rfl; exact rfl; (first | (with_reducible exact oneInt) | (with_reducible exact oneBool) | (with_reducible exact oneU8) | (with_reducible exact oneU16)); (first | with_reducible exact .z | with_reducible exact .s .z | with_reducible exact .s (.s .z) | with_reducible exact .s (.s (.s .z)) | with_reducible exact .s (.s (.s (.s .z))) | with_reducible exact .s (.s (.s (.s (.s .z))))); (focus repeat' (first | with_reducible exact .z | with_reducible apply Drop.s)); exact rfl; all_goals skip) | ((with_reducible apply own_load HM); exact rfl; exact rfl; (first | (with_reducible exact aggN)); (first | with_reducible exact .z | with_reducible exact .s .z | with_reducible exact .s (.s .z) | with_reducible exact .s (.s (.s .z)) | with_reducible exact .s (.s (.s (.s .z))) | with_reducible exact .s (.s (.s (.s (.s .z))))); (focus repeat' (first | with_reducible exact .z | with_reducible apply Drop.s)); (focus repeat' (first | with_reducible exact .z | with_reducible apply Take.s)); exact rfl; all_goals skip) | ((with_reducible apply own_store HM); exact rfl; exact rfl; (conv => lhs; whnf); exact rfl; (first | with_reducible exact .z | with_reducible exact .s .z | with_reducible exact .s (.s .z) | with_reducible exact .s (.s (.s .z)) | with_reducible exact .s (.s (.s (.s .z))) | with_reducible exact .s (.s (.s (.s (.s .z))))); (focus repeat' (first | with_reducible exact .z | with_reducible apply Over.p | with_reducible apply Over.s)); (first | with_reducible exact .z | with_reducible exact .s .z | with_reducible exact .s (.s .z) | with_reducible exact .s (.s (.s .z)) | with_reducible exact .s (.s (.s (.s .z))) | with_reducible exact .s (.s (.s (.s (.s .z))))); (first | (with_reducible exact (aggN).size) | (with_reducible exact (oneInt).size) | (with_reducible exact (oneBool).size) | (with_reducible exact (oneU8).size) | (with_reducible exact (oneU16).size)); exact rfl; exact rfl; exact rfl; intro w' HM'; clear HM; have HM := HM'; clear HM'; all_goals skip)
              | (go_at_call 14; refine (step_at m C _ X false P _ Y hstep m0 m1 b0 b1 X0 X1 _).mono ?_; rintro e w2 ⟨rfl, hb⟩; have HM' := Lib.hid (HM.out.call hb); clear HM hb; have HM := HM'; clear HM'))
            go_roundw
            case rel =>
              refine ⟨k + 1, Y, by omega, Y0, Y1, by go_num, by rw [Q3.out, HH.out.2]; simp, ?_⟩
              show Own _ _ _
              rw [Q2.out, Q3.out, HH.out.1]
              exact HM.out.forget
            case measure => simp [intOf]; omega
      · obtain rfl : k = 128 := by omega
        have hfin : (m % 4 = 0 ∧ 2 ≤ upsAt h (tn P c ((128 : Nat) : Int)) ∧ upsAt h (tn P c ((128 : Nat) : Int)) ≤ 4) ∨ (m % 4 = 1 ∧ 1 ≤ upsAt h (tn P c ((128 : Nat) : Int)) ∧ upsAt h (tn P c ((128 : Nat) : Int)) ≤ 3) ∨ (m % 4 = 2 ∧ upsAt h (tn P c ((128 : Nat) : Int)) ≤ 2) := by
          unfold upsAt tn
          rw [if_neg (by omega)]
          rcases HP.out with ⟨e1, rfl⟩ | ⟨e1, rfl⟩ | ⟨e1, rfl⟩
          · left; refine ⟨e1, ?_, ?_⟩ <;> (split <;> omega)
          · right; left; refine ⟨e1, ?_, ?_⟩ <;> (split <;> omega)
          · right; right; refine ⟨e1, ?_⟩; split <;> omega
        obtain ⟨M, hM⟩ : ∃ M, M = upsAt h (tn P c ((128 : Nat) : Int)) := ⟨_, rfl⟩
        rw [← hM] at hfin ⊢
        clear hM
        have hr := HR2.out
        rcases hfin with ⟨hk, f1, f2⟩ | ⟨hk, f1, f2⟩ | ⟨hk, f1⟩
        all_goals
          rw [hk] at hr
          clear hk
          go_wp2_with (first
            | ((with_reducible apply own_box HM); exact rfl; (conv => lhs; whnf); exact rfl; exact rfl; (first | (clear tg1; intro w' g1 HM') | (clear tg2; intro w' g2 HM') | (clear tg3; intro w' g3 HM') | (clear tg4; intro w' g4 HM') | intro w' g' HM'); clear HM; have HM := HM'; clear HM'; all_goals skip) | ((with_reducible apply own_alloc HM); exact rfl; (first | (with_reducible exact zeroN)); exact rfl; (first | (clear tg1; intro w' g1 HM') | (clear tg2; intro w' g2 HM') | (clear tg3; intro w' g3 HM') | (clear tg4; intro w' g4 HM') | intro w' g' HM'); clear HM; have HM := HM'; clear HM'; all_goals skip) | ((with_reducible apply own_cell HM); exact rfl; exact rfl; (first | (with_reducible exact oneInt) | (with_reducible exact oneBool) | (with_reducible exact oneU8) | (with_reducible exact oneU16)); (first | with_reducible exact .z | with_reducible exact .s .z | with_reducible exact .s (.s .z) | with_reducible exact .s (.s (.s .z)) | with_reducible exact .s (.s (.s (.s .z))) | with_reducible exact .s (.s (.s (.s (.s .z))))); (focus repeat' (first | with_reducible exact .z | with_reducible apply Drop.s)); exact rfl; all_goals skip) | ((with_reducible apply own_load HM); exact rfl; exact rfl; (first | (with_reducible exact aggN)); (first | with_reducible exact .z | with_reducible exact .s .z | with_reducible exact .s (.s .z) | with_reducible exact .s (.s (.s .z)) | with_reducible exact .s (.s (.s (.s .z))) | with_reducible exact .s (.s (.s (.s (.s .z))))); (focus repeat' (first | with_reducible exact .z | with_reducible apply Drop.s)); (focus repeat' (first | with_reducible exact .z | with_reducible apply Take.s)); exact rfl; all_goals skip) | ((with_reducible apply own_store HM); exact rfl; exact rfl; (conv => lhs; whnf); exact rfl; (first | with_reducible exact .z | with_reducible exact .s .z | with_reducible exact .s (.s .z) | with_reducible exact .s (.s (.s .z)) | with_reducible exact .s (.s (.s (.s .z))) | with_reducible exact .s (.s (.s (.s (.s .z))))); (focus repeat' (first | with_reducible exact .z | with_reducible apply Over.p | with_reducible apply Over.s)); (first | with_reducible exact .z | with_reducible exact .s .z | with_reducible exact .s (.s .z) | with_reducible exact .s (.s (.s .z)) | with_reducible exact .s (.s (.s (.s .z))) | with_reducible exact .s (.s (.s (.s (.s .z))))); (first | (with_reducible exact (aggN).size) | (with_reducible exact (oneInt).size) | (with_reducible exact (oneBool).size) | (with_reducible exact (oneU8).size) | (with_reducible exact (oneU16).size)); exact rfl; exact rfl; exact rfl; intro w' HM'; clear HM; have HM := HM'; clear HM'; all_goals skip))
          go_ret
          exact ⟨rfl, Own.fin HM⟩

theorem waits_any (m c : Int) (h : Bool) (x : Int) (m0 : 0 ≤ m) (x0 : 0 ≤ x) (x1 : x < 65536) (w : World) :
    Calls Try.prog 7 #[.agg #[.int .u8 m, .int .i64 c, .bool h, .int .u16 x]] w fun e w' => e = .returned (.bool true) ∧ Below w.heap.size w w' := by
  by_cases hr : rightB m c x = true
  · have hr' := (rightB_iff m c x).1 hr
    exact waits_some m c h x m0 hr'.1 hr'.2.1 hr'.2.2.1 hr'.2.2.2 x1 hr w
  · exact waits_wrong m c h x m0 x0 (by simpa using hr) w

end Go.Proofs.Ytelncbajkbgepaa
