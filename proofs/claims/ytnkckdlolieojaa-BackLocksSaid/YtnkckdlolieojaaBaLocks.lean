/-
  The law BackLocks returns true.
-/
import Derived.Test.YtnkckdlolieojaaBaScrolls
import Derived.Test.YtnkckdlolieojaaTakes
namespace Go.Proofs.Ytnkckdlolieojaa
open Go.RowKit

set_option maxRecDepth 100000 in
set_option maxHeartbeats 1600000 in
theorem locks_o1 (a1 a2 : Option Addr) (n1 c1 n2 c2 : Nat) (many at_ : Int) (r0 r1 r2 r3 r4 r5 r6 r7 r8 r9 r10 b0 b1 : Nat) (w : World) (l1 : 300 < n1) :
    Calls Try.prog 7 #[.agg #[.slice a1 n1 c1, .slice a2 n2 c2, .int .i64 many, .int .i64 at_], regsV r0 r1 r2 r3 r4 r5 r6 r7 r8 r9 r10, .agg #[.int .u8 (b0 : Int), .int .u8 (b1 : Int)]] w fun e w' => e = .returned (.bool true) ∧ Below w.heap.size w w' := by
  have HM := Lib.hid (Own.start w)
  have tg1 : Hid True := trivial
  have tg2 : Hid True := trivial
  have K1 : ((300 : Int) < (n1 : Int)) = True := by rw [eq_iff_iff, iff_true]; omega
  clear l1
  go_enter Try.func7, Try.ntmps7
  go_upto_region 3 with (first | ((with_reducible apply own_box HM); exact rfl; (conv => lhs; whnf); exact rfl; exact rfl; (first | (clear tg1; intro w' g1 HM') | (clear tg2; intro w' g2 HM') | (clear tg3; intro w' g3 HM') | (clear tg4; intro w' g4 HM') | (clear tg5; intro w' g5 HM') | (clear tg6; intro w' g6 HM') | (clear tg7; intro w' g7 HM') | (clear tg8; intro w' g8 HM') | (clear tg9; intro w' g9 HM') | intro w' g' HM'); clear HM; have HM := HM'; clear HM'; all_goals skip) | ((with_reducible apply own_alloc HM); exact rfl; (first | (with_reducible exact zeroG) | (with_reducible exact zero11)); exact rfl; (first | (clear tg1; intro w' g1 HM') | (clear tg2; intro w' g2 HM') | (clear tg3; intro w' g3 HM') | (clear tg4; intro w' g4 HM') | (clear tg5; intro w' g5 HM') | (clear tg6; intro w' g6 HM') | (clear tg7; intro w' g7 HM') | (clear tg8; intro w' g8 HM') | (clear tg9; intro w' g9 HM') | intro w' g' HM'); clear HM; have HM := HM'; clear HM'; all_goals skip) | ((with_reducible apply own_cell HM); exact rfl; exact rfl; (first | (with_reducible exact oneInt) | (with_reducible exact oneBool) | (with_reducible exact oneU8) | (with_reducible exact oneBs)); (first | with_reducible exact .z | with_reducible exact .s .z | with_reducible exact .s (.s .z) | with_reducible exact .s (.s (.s .z)) | with_reducible exact .s (.s (.s (.s .z))) | with_reducible exact .s (.s (.s (.s (.s .z))))); (focus repeat' (first | with_reducible exact .z | with_reducible apply Drop.s)); exact rfl; all_goals skip) | ((with_reducible apply own_load HM); exact rfl; exact rfl; (first | (with_reducible exact aggI) | (with_reducible exact agg11) | (with_reducible exact agg2b)); (first | with_reducible exact .z | with_reducible exact .s .z | with_reducible exact .s (.s .z) | with_reducible exact .s (.s (.s .z)) | with_reducible exact .s (.s (.s (.s .z))) | with_reducible exact .s (.s (.s (.s (.s .z))))); (focus repeat' (first | with_reducible exact .z | with_reducible apply Drop.s)); (focus repeat' (first | with_reducible exact .z | with_reducible apply Take.s)); exact rfl; all_goals skip) | ((with_reducible apply own_store HM); exact rfl; exact rfl; (conv => lhs; whnf); exact rfl; (first | with_reducible exact .z | with_reducible exact .s .z | with_reducible exact .s (.s .z) | with_reducible exact .s (.s (.s .z)) | with_reducible exact .s (.s (.s (.s .z))) | with_reducible exact .s (.s (.s (.s (.s .z))))); (focus repeat' (first | with_reducible exact .z | with_reducible apply Over.p | with_reducible apply Over.s)); (first | with_reducible exact .z | with_reducible exact .s .z | with_reducible exact .s (.s .z) | with_reducible exact .s (.s (.s .z)) | with_reducible exact .s (.s (.s (.s .z))) | with_reducible exact .s (.s (.s (.s (.s .z))))); (first | (with_reducible exact (aggI).size) | (with_reducible exact (agg11).size) | (with_reducible exact (agg2b).size) | (with_reducible exact (oneInt).size) | (with_reducible exact (oneBool).size) | (with_reducible exact (oneU8).size) | (with_reducible exact (oneBs).size)); exact rfl; exact rfl; exact rfl; exact rfl; intro w' HM'; clear HM; have HM := HM'; clear HM'; all_goals skip) | (go_at_call 9; (with_reducible refine (alive_any _).mono ?_); rintro e w' ⟨rfl, hb⟩; have HM' := Lib.hid (HM.out.call hb); clear HM hb; have HM := HM'; clear HM'))
  (refine own_inorder HM ?_; (try simp only [Act.put, List.setIfInBounds_toArray, List.set_cons_zero, List.set_cons_succ]); repeat ((fail_if_success (with_reducible refine wpQuiet_nil ?_)); first | go_big_quiet_skip | (go_big_quiet_want; first | ((with_reducible apply quiet_load); exact rfl; (first | (with_reducible exact aggI)); (first | with_reducible exact .z | with_reducible exact .s .z | with_reducible exact .s (.s .z) | with_reducible exact .s (.s (.s .z)) | with_reducible exact .s (.s (.s (.s .z))) | with_reducible exact .s (.s (.s (.s (.s .z))))); (focus repeat' (first | with_reducible exact .z | with_reducible apply Drop.s)); (focus repeat' (first | with_reducible exact .z | with_reducible apply Take.s)); go_big_quiet_op; go_big_quiet_on) | ((with_reducible apply quiet_cell); exact rfl; (first | (with_reducible exact oneInt) | (with_reducible exact oneBool) | (with_reducible exact oneU8) | (with_reducible exact oneBs)); (first | with_reducible exact .z | with_reducible exact .s .z | with_reducible exact .s (.s .z) | with_reducible exact .s (.s (.s .z)) | with_reducible exact .s (.s (.s (.s .z))) | with_reducible exact .s (.s (.s (.s (.s .z))))); (focus repeat' (first | with_reducible exact .z | with_reducible apply Drop.s)); go_big_quiet_op; go_big_quiet_on) | (go_big_quiet_op; go_big_quiet_on) | (go_big_quiet_op; go_big_quiet_on) | (go_big_quiet_op; refine ⟨_, fun _ _ => rfl, ?_⟩; go_big_quiet_on))))
  refine wpQuiet_nil ?_
  intro w' HM'
  clear HM; have HM := HM'; clear HM'
  clear K1
  go_wp2_with fail
  go_ret
  exact ⟨rfl, Own.fin HM⟩

set_option maxRecDepth 100000 in
set_option maxHeartbeats 1600000 in
theorem locks_o2 (a1 a2 : Option Addr) (n1 c1 n2 c2 : Nat) (many at_ : Int) (r0 r1 r2 r3 r4 r5 r6 r7 r8 r9 r10 b0 b1 : Nat) (w : World) (l1 : n1 ≤ 300) (l2 : 300 < n2) :
    Calls Try.prog 7 #[.agg #[.slice a1 n1 c1, .slice a2 n2 c2, .int .i64 many, .int .i64 at_], regsV r0 r1 r2 r3 r4 r5 r6 r7 r8 r9 r10, .agg #[.int .u8 (b0 : Int), .int .u8 (b1 : Int)]] w fun e w' => e = .returned (.bool true) ∧ Below w.heap.size w w' := by
  have HM := Lib.hid (Own.start w)
  have tg1 : Hid True := trivial
  have tg2 : Hid True := trivial
  have K1 : ((300 : Int) < (n1 : Int)) = False := by rw [eq_iff_iff, iff_false]; omega
  have K2 : ((300 : Int) < (n2 : Int)) = True := by rw [eq_iff_iff, iff_true]; omega
  clear l1 l2
  go_enter Try.func7, Try.ntmps7
  go_upto_region 3 with (first | ((with_reducible apply own_box HM); exact rfl; (conv => lhs; whnf); exact rfl; exact rfl; (first | (clear tg1; intro w' g1 HM') | (clear tg2; intro w' g2 HM') | (clear tg3; intro w' g3 HM') | (clear tg4; intro w' g4 HM') | (clear tg5; intro w' g5 HM') | (clear tg6; intro w' g6 HM') | (clear tg7; intro w' g7 HM') | (clear tg8; intro w' g8 HM') | (clear tg9; intro w' g9 HM') | intro w' g' HM'); clear HM; have HM := HM'; clear HM'; all_goals skip) | ((with_reducible apply own_alloc HM); exact rfl; (first | (with_reducible exact zeroG) | (with_reducible exact zero11)); exact rfl; (first | (clear tg1; intro w' g1 HM') | (clear tg2; intro w' g2 HM') | (clear tg3; intro w' g3 HM') | (clear tg4; intro w' g4 HM') | (clear tg5; intro w' g5 HM') | (clear tg6; intro w' g6 HM') | (clear tg7; intro w' g7 HM') | (clear tg8; intro w' g8 HM') | (clear tg9; intro w' g9 HM') | intro w' g' HM'); clear HM; have HM := HM'; clear HM'; all_goals skip) | ((with_reducible apply own_cell HM); exact rfl; exact rfl; (first | (with_reducible exact oneInt) | (with_reducible exact oneBool) | (with_reducible exact oneU8) | (with_reducible exact oneBs)); (first | with_reducible exact .z | with_reducible exact .s .z | with_reducible exact .s (.s .z) | with_reducible exact .s (.s (.s .z)) | with_reducible exact .s (.s (.s (.s .z))) | with_reducible exact .s (.s (.s (.s (.s .z))))); (focus repeat' (first | with_reducible exact .z | with_reducible apply Drop.s)); exact rfl; all_goals skip) | ((with_reducible apply own_load HM); exact rfl; exact rfl; (first | (with_reducible exact aggI) | (with_reducible exact agg11) | (with_reducible exact agg2b)); (first | with_reducible exact .z | with_reducible exact .s .z | with_reducible exact .s (.s .z) | with_reducible exact .s (.s (.s .z)) | with_reducible exact .s (.s (.s (.s .z))) | with_reducible exact .s (.s (.s (.s (.s .z))))); (focus repeat' (first | with_reducible exact .z | with_reducible apply Drop.s)); (focus repeat' (first | with_reducible exact .z | with_reducible apply Take.s)); exact rfl; all_goals skip) | ((with_reducible apply own_store HM); exact rfl; exact rfl; (conv => lhs; whnf); exact rfl; (first | with_reducible exact .z | with_reducible exact .s .z | with_reducible exact .s (.s .z) | with_reducible exact .s (.s (.s .z)) | with_reducible exact .s (.s (.s (.s .z))) | with_reducible exact .s (.s (.s (.s (.s .z))))); (focus repeat' (first | with_reducible exact .z | with_reducible apply Over.p | with_reducible apply Over.s)); (first | with_reducible exact .z | with_reducible exact .s .z | with_reducible exact .s (.s .z) | with_reducible exact .s (.s (.s .z)) | with_reducible exact .s (.s (.s (.s .z))) | with_reducible exact .s (.s (.s (.s (.s .z))))); (first | (with_reducible exact (aggI).size) | (with_reducible exact (agg11).size) | (with_reducible exact (agg2b).size) | (with_reducible exact (oneInt).size) | (with_reducible exact (oneBool).size) | (with_reducible exact (oneU8).size) | (with_reducible exact (oneBs).size)); exact rfl; exact rfl; exact rfl; exact rfl; intro w' HM'; clear HM; have HM := HM'; clear HM'; all_goals skip) | (go_at_call 9; (with_reducible refine (alive_any _).mono ?_); rintro e w' ⟨rfl, hb⟩; have HM' := Lib.hid (HM.out.call hb); clear HM hb; have HM := HM'; clear HM'))
  (refine own_inorder HM ?_; (try simp only [Act.put, List.setIfInBounds_toArray, List.set_cons_zero, List.set_cons_succ]); repeat ((fail_if_success (with_reducible refine wpQuiet_nil ?_)); first | go_big_quiet_skip | (go_big_quiet_want; first | ((with_reducible apply quiet_load); exact rfl; (first | (with_reducible exact aggI)); (first | with_reducible exact .z | with_reducible exact .s .z | with_reducible exact .s (.s .z) | with_reducible exact .s (.s (.s .z)) | with_reducible exact .s (.s (.s (.s .z))) | with_reducible exact .s (.s (.s (.s (.s .z))))); (focus repeat' (first | with_reducible exact .z | with_reducible apply Drop.s)); (focus repeat' (first | with_reducible exact .z | with_reducible apply Take.s)); go_big_quiet_op; go_big_quiet_on) | ((with_reducible apply quiet_cell); exact rfl; (first | (with_reducible exact oneInt) | (with_reducible exact oneBool) | (with_reducible exact oneU8) | (with_reducible exact oneBs)); (first | with_reducible exact .z | with_reducible exact .s .z | with_reducible exact .s (.s .z) | with_reducible exact .s (.s (.s .z)) | with_reducible exact .s (.s (.s (.s .z))) | with_reducible exact .s (.s (.s (.s (.s .z))))); (focus repeat' (first | with_reducible exact .z | with_reducible apply Drop.s)); go_big_quiet_op; go_big_quiet_on) | (go_big_quiet_op; go_big_quiet_on) | (go_big_quiet_op; go_big_quiet_on) | (go_big_quiet_op; refine ⟨_, fun _ _ => rfl, ?_⟩; go_big_quiet_on))))
  refine wpQuiet_nil ?_
  intro w' HM'
  clear HM; have HM := HM'; clear HM'
  clear K1 K2
  go_wp2_with fail
  go_ret
  exact ⟨rfl, Own.fin HM⟩

theorem or_top (r : Nat) (h : r < 256) : (r ||| 192) / 64 = 3 ∧ r ||| 192 < 256 := by
  have h1 : ∀ r : Fin 256, (r.val ||| 192) / 64 = 3 ∧ r.val ||| 192 < 256 := by decide +kernel
  exact h1 ⟨r, h⟩
theorem baCol_top (z r8 r8' line x : Nat) (hz : z / 64 = 3) (hl : line < 16) : baCol z r8 line x = baCol z r8' line x := by
  unfold baCol
  rw [if_pos ⟨by omega, hl⟩, if_pos ⟨by omega, hl⟩]
theorem baRow_right (z r9 r9' line x : Nat) (hz : z / 64 = 3) (hx : 192 ≤ x) : baRow z r9 line x = baRow z r9' line x := by
  unfold baRow
  rw [if_pos ⟨by omega, hx⟩, if_pos ⟨by omega, hx⟩]
theorem gColor_top (n : Nat) (xs : Nat → Nat) (z r2 r8 r8' r9 line : Nat) (hz : z / 64 = 3) (hl : line < 16) : gColor n xs z r2 r8 r9 line = gColor n xs z r2 r8' r9 line := by
  funext x
  unfold gColor
  rw [baCol_top z r8 r8' line x hz hl]
theorem gFront_top (n : Nat) (xs : Nat → Nat) (z r2 r8 r8' r9 line : Nat) (hz : z / 64 = 3) (hl : line < 16) : gFront n xs z r2 r8 r9 line = gFront n xs z r2 r8' r9 line := by
  funext x
  unfold gFront
  rw [baCol_top z r8 r8' line x hz hl]
theorem gColor_right (n : Nat) (xs : Nat → Nat) (z r2 r8 r9 r9' line x : Nat) (hz : z / 64 = 3) (hx : 192 ≤ x) : gColor n xs z r2 r8 r9 line x = gColor n xs z r2 r8 r9' line x := by
  unfold gColor
  rw [baRow_right z r9 r9' line x hz hx]
theorem gFront_right (n : Nat) (xs : Nat → Nat) (z r2 r8 r9 r9' line x : Nat) (hz : z / 64 = 3) (hx : 192 ≤ x) : gFront n xs z r2 r8 r9 line x = gFront n xs z r2 r8 r9' line x := by
  unfold gFront
  rw [baRow_right z r9 r9' line x hz hx]
set_option maxRecDepth 100000 in
set_option maxHeartbeats 6400000 in
theorem locks_in (a1 a2 : Option Addr) (n1 c1 n2 c2 : Nat) (many at_ : Int) (xs1 xs2 : Nat → Nat) (r0 r1 r2 r3 r4 r5 r6 r7 r8 r9 r10 b0 b1 : Nat) (r0b : r0 < 256) (r2b : r2 < 256) (r8b : r8 < 256) (r9b : r9 < 256) (b0b : b0 < 256) (b1b : b1 < 256) (w : World) (h1 : ByteRow w a1 n1 xs1) (h2 : ByteRow w a2 n2 xs2) (l1 : n1 ≤ 300) (l2 : n2 ≤ 300) :
    Calls Try.prog 7 #[.agg #[.slice a1 n1 c1, .slice a2 n2 c2, .int .i64 many, .int .i64 at_], regsV r0 r1 r2 r3 r4 r5 r6 r7 r8 r9 r10, .agg #[.int .u8 (b0 : Int), .int .u8 (b1 : Int)]] w fun e w' => e = .returned (.bool true) ∧ Below w.heap.size w w' := by
  have HM := Lib.hid (Own.start w)
  have tg1 : Hid True := trivial
  have tg2 : Hid True := trivial
  have L1 := Lib.hid l1
  have L2 := Lib.hid l2
  have K1 : ((300 : Int) < (n1 : Int)) = False := by rw [eq_iff_iff, iff_false]; omega
  have K2 : ((300 : Int) < (n2 : Int)) = False := by rw [eq_iff_iff, iff_false]; omega
  have HV1 := Lib.hid h1
  have HV2 := Lib.hid h2
  clear l1 l2 h1 h2
  have tg3 : Hid True := trivial
  have tg4 : Hid True := trivial
  have tg5 : Hid True := trivial
  have tg6 : Hid True := trivial
  have R2 := Lib.hid r2b
  have R8 := Lib.hid r8b
  have R9 := Lib.hid r9b
  have B0 := Lib.hid b0b
  have B1 := Lib.hid b1b
  have H7 : Hid (((7 : Nat) : Int) = 7) := rfl
  have HL7 : Hid (7 < 192) := Lib.hid (by decide)
  have H90 : Hid (((90 : Nat) : Int) = 90) := rfl
  have HL90 : Hid (90 < 192) := Lib.hid (by decide)
  obtain ⟨z, hz⟩ : ∃ z, r0 ||| 192 = z := ⟨_, rfl⟩
  have HZ : Hid (z < 256) := Lib.hid (hz ▸ (or_top r0 r0b).2)
  have HZ3 : Hid (z / 64 = 3) := Lib.hid (hz ▸ (or_top r0 r0b).1)
  have E1 : Hid (bits .or .u8 (r0 : Int) 192 = (z : Int)) := Lib.hid ((u8_or_nat r0 192 r0b (by decide)).trans (by rw [hz]))
  clear hz r0b r2b r8b r9b b0b b1b
  go_enter Try.func7, Try.ntmps7
  go_upto_region 3 with (first | ((with_reducible apply own_box HM); exact rfl; (conv => lhs; whnf); exact rfl; exact rfl; (first | (clear tg1; intro w' g1 HM') | (clear tg2; intro w' g2 HM') | (clear tg3; intro w' g3 HM') | (clear tg4; intro w' g4 HM') | (clear tg5; intro w' g5 HM') | (clear tg6; intro w' g6 HM') | (clear tg7; intro w' g7 HM') | (clear tg8; intro w' g8 HM') | (clear tg9; intro w' g9 HM') | intro w' g' HM'); clear HM; have HM := HM'; clear HM'; all_goals skip) | ((with_reducible apply own_alloc HM); exact rfl; (first | (with_reducible exact zeroG) | (with_reducible exact zero11)); exact rfl; (first | (clear tg1; intro w' g1 HM') | (clear tg2; intro w' g2 HM') | (clear tg3; intro w' g3 HM') | (clear tg4; intro w' g4 HM') | (clear tg5; intro w' g5 HM') | (clear tg6; intro w' g6 HM') | (clear tg7; intro w' g7 HM') | (clear tg8; intro w' g8 HM') | (clear tg9; intro w' g9 HM') | intro w' g' HM'); clear HM; have HM := HM'; clear HM'; all_goals skip) | ((with_reducible apply own_cell HM); exact rfl; exact rfl; (first | (with_reducible exact oneInt) | (with_reducible exact oneBool) | (with_reducible exact oneU8) | (with_reducible exact oneBs)); (first | with_reducible exact .z | with_reducible exact .s .z | with_reducible exact .s (.s .z) | with_reducible exact .s (.s (.s .z)) | with_reducible exact .s (.s (.s (.s .z))) | with_reducible exact .s (.s (.s (.s (.s .z))))); (focus repeat' (first | with_reducible exact .z | with_reducible apply Drop.s)); exact rfl; all_goals skip) | ((with_reducible apply own_load HM); exact rfl; exact rfl; (first | (with_reducible exact aggI) | (with_reducible exact agg11) | (with_reducible exact agg2b)); (first | with_reducible exact .z | with_reducible exact .s .z | with_reducible exact .s (.s .z) | with_reducible exact .s (.s (.s .z)) | with_reducible exact .s (.s (.s (.s .z))) | with_reducible exact .s (.s (.s (.s (.s .z))))); (focus repeat' (first | with_reducible exact .z | with_reducible apply Drop.s)); (focus repeat' (first | with_reducible exact .z | with_reducible apply Take.s)); exact rfl; all_goals skip) | ((with_reducible apply own_store HM); exact rfl; exact rfl; (conv => lhs; whnf); exact rfl; (first | with_reducible exact .z | with_reducible exact .s .z | with_reducible exact .s (.s .z) | with_reducible exact .s (.s (.s .z)) | with_reducible exact .s (.s (.s (.s .z))) | with_reducible exact .s (.s (.s (.s (.s .z))))); (focus repeat' (first | with_reducible exact .z | with_reducible apply Over.p | with_reducible apply Over.s)); (first | with_reducible exact .z | with_reducible exact .s .z | with_reducible exact .s (.s .z) | with_reducible exact .s (.s (.s .z)) | with_reducible exact .s (.s (.s (.s .z))) | with_reducible exact .s (.s (.s (.s (.s .z))))); (first | (with_reducible exact (aggI).size) | (with_reducible exact (agg11).size) | (with_reducible exact (agg2b).size) | (with_reducible exact (oneInt).size) | (with_reducible exact (oneBool).size) | (with_reducible exact (oneU8).size) | (with_reducible exact (oneBs).size)); exact rfl; exact rfl; exact rfl; exact rfl; intro w' HM'; clear HM; have HM := HM'; clear HM'; all_goals skip) | (go_at_call 9; (with_reducible refine (alive_any _).mono ?_); rintro e w' ⟨rfl, hb⟩; have HM' := Lib.hid (HM.out.call hb); clear HM hb; have HM := HM'; clear HM'))
  (refine own_inorder HM ?_; (try simp only [Act.put, List.setIfInBounds_toArray, List.set_cons_zero, List.set_cons_succ]); repeat ((fail_if_success (with_reducible refine wpQuiet_nil ?_)); first | go_big_quiet_skip | (go_big_quiet_want; first | ((with_reducible apply quiet_load); exact rfl; (first | (with_reducible exact aggI)); (first | with_reducible exact .z | with_reducible exact .s .z | with_reducible exact .s (.s .z) | with_reducible exact .s (.s (.s .z)) | with_reducible exact .s (.s (.s (.s .z))) | with_reducible exact .s (.s (.s (.s (.s .z))))); (focus repeat' (first | with_reducible exact .z | with_reducible apply Drop.s)); (focus repeat' (first | with_reducible exact .z | with_reducible apply Take.s)); go_big_quiet_op; go_big_quiet_on) | ((with_reducible apply quiet_cell); exact rfl; (first | (with_reducible exact oneInt) | (with_reducible exact oneBool) | (with_reducible exact oneU8) | (with_reducible exact oneBs)); (first | with_reducible exact .z | with_reducible exact .s .z | with_reducible exact .s (.s .z) | with_reducible exact .s (.s (.s .z)) | with_reducible exact .s (.s (.s (.s .z))) | with_reducible exact .s (.s (.s (.s (.s .z))))); (focus repeat' (first | with_reducible exact .z | with_reducible apply Drop.s)); go_big_quiet_op; go_big_quiet_on) | (go_big_quiet_op; go_big_quiet_on) | (go_big_quiet_op; go_big_quiet_on) | (go_big_quiet_op; refine ⟨_, fun _ _ => rfl, ?_⟩; go_big_quiet_on))))
  refine wpQuiet_nil ?_
  intro w' HM'
  clear HM; have HM := HM'; clear HM'
  clear K1 K2
  go_upto_region 6 with (first | ((with_reducible apply own_box HM); exact rfl; (conv => lhs; whnf); exact rfl; exact rfl; (first | (clear tg1; intro w' g1 HM') | (clear tg2; intro w' g2 HM') | (clear tg3; intro w' g3 HM') | (clear tg4; intro w' g4 HM') | (clear tg5; intro w' g5 HM') | (clear tg6; intro w' g6 HM') | (clear tg7; intro w' g7 HM') | (clear tg8; intro w' g8 HM') | (clear tg9; intro w' g9 HM') | intro w' g' HM'); clear HM; have HM := HM'; clear HM'; all_goals skip) | ((with_reducible apply own_alloc HM); exact rfl; (first | (with_reducible exact zeroG) | (with_reducible exact zero11)); exact rfl; (first | (clear tg1; intro w' g1 HM') | (clear tg2; intro w' g2 HM') | (clear tg3; intro w' g3 HM') | (clear tg4; intro w' g4 HM') | (clear tg5; intro w' g5 HM') | (clear tg6; intro w' g6 HM') | (clear tg7; intro w' g7 HM') | (clear tg8; intro w' g8 HM') | (clear tg9; intro w' g9 HM') | intro w' g' HM'); clear HM; have HM := HM'; clear HM'; all_goals skip) | ((with_reducible apply own_cell HM); exact rfl; exact rfl; (first | (with_reducible exact oneInt) | (with_reducible exact oneBool) | (with_reducible exact oneU8) | (with_reducible exact oneBs)); (first | with_reducible exact .z | with_reducible exact .s .z | with_reducible exact .s (.s .z) | with_reducible exact .s (.s (.s .z)) | with_reducible exact .s (.s (.s (.s .z))) | with_reducible exact .s (.s (.s (.s (.s .z))))); (focus repeat' (first | with_reducible exact .z | with_reducible apply Drop.s)); exact rfl; all_goals skip) | ((with_reducible apply own_load HM); exact rfl; exact rfl; (first | (with_reducible exact aggI) | (with_reducible exact agg11) | (with_reducible exact agg2b)); (first | with_reducible exact .z | with_reducible exact .s .z | with_reducible exact .s (.s .z) | with_reducible exact .s (.s (.s .z)) | with_reducible exact .s (.s (.s (.s .z))) | with_reducible exact .s (.s (.s (.s (.s .z))))); (focus repeat' (first | with_reducible exact .z | with_reducible apply Drop.s)); (focus repeat' (first | with_reducible exact .z | with_reducible apply Take.s)); exact rfl; all_goals skip) | ((with_reducible apply own_store HM); exact rfl; exact rfl; (conv => lhs; whnf); exact rfl; (first | with_reducible exact .z | with_reducible exact .s .z | with_reducible exact .s (.s .z) | with_reducible exact .s (.s (.s .z)) | with_reducible exact .s (.s (.s (.s .z))) | with_reducible exact .s (.s (.s (.s (.s .z))))); (focus repeat' (first | with_reducible exact .z | with_reducible apply Over.p | with_reducible apply Over.s)); (first | with_reducible exact .z | with_reducible exact .s .z | with_reducible exact .s (.s .z) | with_reducible exact .s (.s (.s .z)) | with_reducible exact .s (.s (.s (.s .z))) | with_reducible exact .s (.s (.s (.s (.s .z))))); (first | (with_reducible exact (aggI).size) | (with_reducible exact (agg11).size) | (with_reducible exact (agg2b).size) | (with_reducible exact (oneInt).size) | (with_reducible exact (oneBool).size) | (with_reducible exact (oneU8).size) | (with_reducible exact (oneBs).size)); exact rfl; exact rfl; exact rfl; exact rfl; intro w' HM'; clear HM; have HM := HM'; clear HM'; all_goals skip) | (go_at_call 11; (with_reducible refine (build_any a1 a2 n1 c1 n2 c2 many at_ xs1 xs2 _ (HV1.out.under (Own.fin HM)) (HV2.out.under (Own.fin HM)) L1.out L2.out).mono ?_); rintro e w' ⟨g, m, ys, rfl, hm, hy, hg, hW, hb⟩; have HM' := Lib.hid (HM.out.plus hb hg hW); have HY := Lib.hid hy; have HN := Lib.hid hm; clear HM hb hy hm hg hW; have HM := HM'; clear HM'))
  have E1' := E1.out
  go_upto_region 9 with (first | ((with_reducible apply own_box HM); exact rfl; (conv => lhs; whnf); exact rfl; exact rfl; (first | (clear tg1; intro w' g1 HM') | (clear tg2; intro w' g2 HM') | (clear tg3; intro w' g3 HM') | (clear tg4; intro w' g4 HM') | (clear tg5; intro w' g5 HM') | (clear tg6; intro w' g6 HM') | (clear tg7; intro w' g7 HM') | (clear tg8; intro w' g8 HM') | (clear tg9; intro w' g9 HM') | intro w' g' HM'); clear HM; have HM := HM'; clear HM'; all_goals skip) | ((with_reducible apply own_alloc HM); exact rfl; (first | (with_reducible exact zeroG) | (with_reducible exact zero11)); exact rfl; (first | (clear tg1; intro w' g1 HM') | (clear tg2; intro w' g2 HM') | (clear tg3; intro w' g3 HM') | (clear tg4; intro w' g4 HM') | (clear tg5; intro w' g5 HM') | (clear tg6; intro w' g6 HM') | (clear tg7; intro w' g7 HM') | (clear tg8; intro w' g8 HM') | (clear tg9; intro w' g9 HM') | intro w' g' HM'); clear HM; have HM := HM'; clear HM'; all_goals skip) | ((with_reducible apply own_cell HM); exact rfl; exact rfl; (first | (with_reducible exact oneInt) | (with_reducible exact oneBool) | (with_reducible exact oneU8) | (with_reducible exact oneBs)); (first | with_reducible exact .z | with_reducible exact .s .z | with_reducible exact .s (.s .z) | with_reducible exact .s (.s (.s .z)) | with_reducible exact .s (.s (.s (.s .z))) | with_reducible exact .s (.s (.s (.s (.s .z))))); (focus repeat' (first | with_reducible exact .z | with_reducible apply Drop.s)); exact rfl; all_goals skip) | ((with_reducible apply own_load HM); exact rfl; exact rfl; (first | (with_reducible exact aggI) | (with_reducible exact agg11) | (with_reducible exact agg2b)); (first | with_reducible exact .z | with_reducible exact .s .z | with_reducible exact .s (.s .z) | with_reducible exact .s (.s (.s .z)) | with_reducible exact .s (.s (.s (.s .z))) | with_reducible exact .s (.s (.s (.s (.s .z))))); (focus repeat' (first | with_reducible exact .z | with_reducible apply Drop.s)); (focus repeat' (first | with_reducible exact .z | with_reducible apply Take.s)); exact rfl; all_goals skip) | ((with_reducible apply own_store HM); exact rfl; exact rfl; (conv => lhs; whnf); exact rfl; (first | with_reducible exact .z | with_reducible exact .s .z | with_reducible exact .s (.s .z) | with_reducible exact .s (.s (.s .z)) | with_reducible exact .s (.s (.s (.s .z))) | with_reducible exact .s (.s (.s (.s (.s .z))))); (focus repeat' (first | with_reducible exact .z | with_reducible apply Over.p | with_reducible apply Over.s)); (first | with_reducible exact .z | with_reducible exact .s .z | with_reducible exact .s (.s .z) | with_reducible exact .s (.s (.s .z)) | with_reducible exact .s (.s (.s (.s .z))) | with_reducible exact .s (.s (.s (.s (.s .z))))); (first | (with_reducible exact (aggI).size) | (with_reducible exact (agg11).size) | (with_reducible exact (agg2b).size) | (with_reducible exact (oneInt).size) | (with_reducible exact (oneBool).size) | (with_reducible exact (oneU8).size) | (with_reducible exact (oneBs).size)); exact rfl; exact rfl; exact rfl; exact rfl; intro w' HM'; clear HM; have HM := HM'; clear HM'; all_goals skip))
  clear E1'
  obtain ⟨f1, hf17⟩ : ∃ f, Hid (gColor m ys z r2 r8 r9 7 = f) := ⟨_, rfl⟩
  obtain ⟨g1', hg1'7⟩ : ∃ f, Hid (gFront m ys z r2 r8 r9 7 = f) := ⟨_, rfl⟩
  have hf27 : Hid (gColor m ys z r2 b0 r9 7 = f1) := Lib.hid (by rw [gColor_top m ys z r2 b0 r8 r9 7 HZ3.out (by decide)]; exact hf17.out)
  have hg2'7 : Hid (gFront m ys z r2 b0 r9 7 = g1') := Lib.hid (by rw [gFront_top m ys z r2 b0 r8 r9 7 HZ3.out (by decide)]; exact hg1'7.out)
  have hs := same_g f1 g1'
  (refine own_region HM (by kernel_rfl) (by kernel_rfl) ?_; (try simp only [Act.put, List.setIfInBounds_toArray, List.set_cons_zero, List.set_cons_succ]); repeat ((fail_if_success (with_reducible refine wpQuiet_nil ?_)); first | go_big_quiet_skip | (go_big_quiet_want; first | ((with_reducible apply quiet_load); exact rfl; (first | (with_reducible exact agg11)); (first | with_reducible exact .z | with_reducible exact .s .z | with_reducible exact .s (.s .z) | with_reducible exact .s (.s (.s .z)) | with_reducible exact .s (.s (.s (.s .z))) | with_reducible exact .s (.s (.s (.s (.s .z))))); (focus repeat' (first | with_reducible exact .z | with_reducible apply Drop.s)); (focus repeat' (first | with_reducible exact .z | with_reducible apply Take.s)); go_big_quiet_op; go_big_quiet_on) | (go_big_quiet_op; go_big_quiet_on) | ((with_reducible apply quiet_call); exact fun w => rfl; (focus (go_simp; all_goals with_reducible rfl)); (intro wq HQ; first | (with_reducible exact line_in (some ⟨g, 0, none⟩) m m ys z r1 r2 r3 r4 r5 r6 r7 r8 r9 r10 7 HZ.out R2.out R8.out R9.out HL7.out 7 H7 f1 g1' hf17 hg1'7 _ (HQ.out.byteRow (.s .z) HY.out)) | (with_reducible exact line_in (some ⟨g, 0, none⟩) m m ys z r1 r2 r3 r4 r5 r6 r7 b0 r9 r10 7 HZ.out R2.out B0.out R9.out HL7.out 7 H7 f1 g1' hf27 hg2'7 _ (HQ.out.byteRow (.s .z) HY.out))); go_big_quiet_op; go_big_quiet_on) | (go_big_quiet_op; go_big_quiet_on) | (go_big_quiet_op; refine ⟨_, fun _ _ => rfl, ?_⟩; go_big_quiet_on))))
  refine wpQuiet_nil ?_
  intro w' HM'
  clear HM; have HM := HM'; clear HM'
  clear hs
  obtain ⟨fa, hfa90⟩ : ∃ f, Hid (gColor m ys z r2 r8 r9 90 = f) := ⟨_, rfl⟩
  obtain ⟨ga, hga90⟩ : ∃ f, Hid (gFront m ys z r2 r8 r9 90 = f) := ⟨_, rfl⟩
  obtain ⟨fb, hfb90⟩ : ∃ f, Hid (gColor m ys z r2 r8 b1 90 = f) := ⟨_, rfl⟩
  obtain ⟨gb, hgb90⟩ : ∃ f, Hid (gFront m ys z r2 r8 b1 90 = f) := ⟨_, rfl⟩
  go_upto_region 13 with (first | ((with_reducible apply own_box HM); exact rfl; (conv => lhs; whnf); exact rfl; exact rfl; (first | (clear tg1; intro w' g1 HM') | (clear tg2; intro w' g2 HM') | (clear tg3; intro w' g3 HM') | (clear tg4; intro w' g4 HM') | (clear tg5; intro w' g5 HM') | (clear tg6; intro w' g6 HM') | (clear tg7; intro w' g7 HM') | (clear tg8; intro w' g8 HM') | (clear tg9; intro w' g9 HM') | intro w' g' HM'); clear HM; have HM := HM'; clear HM'; all_goals skip) | ((with_reducible apply own_alloc HM); exact rfl; (first | (with_reducible exact zeroG) | (with_reducible exact zero11)); exact rfl; (first | (clear tg1; intro w' g1 HM') | (clear tg2; intro w' g2 HM') | (clear tg3; intro w' g3 HM') | (clear tg4; intro w' g4 HM') | (clear tg5; intro w' g5 HM') | (clear tg6; intro w' g6 HM') | (clear tg7; intro w' g7 HM') | (clear tg8; intro w' g8 HM') | (clear tg9; intro w' g9 HM') | intro w' g' HM'); clear HM; have HM := HM'; clear HM'; all_goals skip) | ((with_reducible apply own_cell HM); exact rfl; exact rfl; (first | (with_reducible exact oneInt) | (with_reducible exact oneBool) | (with_reducible exact oneU8) | (with_reducible exact oneBs)); (first | with_reducible exact .z | with_reducible exact .s .z | with_reducible exact .s (.s .z) | with_reducible exact .s (.s (.s .z)) | with_reducible exact .s (.s (.s (.s .z))) | with_reducible exact .s (.s (.s (.s (.s .z))))); (focus repeat' (first | with_reducible exact .z | with_reducible apply Drop.s)); exact rfl; all_goals skip) | ((with_reducible apply own_load HM); exact rfl; exact rfl; (first | (with_reducible exact aggI) | (with_reducible exact agg11) | (with_reducible exact agg2b)); (first | with_reducible exact .z | with_reducible exact .s .z | with_reducible exact .s (.s .z) | with_reducible exact .s (.s (.s .z)) | with_reducible exact .s (.s (.s (.s .z))) | with_reducible exact .s (.s (.s (.s (.s .z))))); (focus repeat' (first | with_reducible exact .z | with_reducible apply Drop.s)); (focus repeat' (first | with_reducible exact .z | with_reducible apply Take.s)); exact rfl; all_goals skip) | ((with_reducible apply own_store HM); exact rfl; exact rfl; (conv => lhs; whnf); exact rfl; (first | with_reducible exact .z | with_reducible exact .s .z | with_reducible exact .s (.s .z) | with_reducible exact .s (.s (.s .z)) | with_reducible exact .s (.s (.s (.s .z))) | with_reducible exact .s (.s (.s (.s (.s .z))))); (focus repeat' (first | with_reducible exact .z | with_reducible apply Over.p | with_reducible apply Over.s)); (first | with_reducible exact .z | with_reducible exact .s .z | with_reducible exact .s (.s .z) | with_reducible exact .s (.s (.s .z)) | with_reducible exact .s (.s (.s (.s .z))) | with_reducible exact .s (.s (.s (.s (.s .z))))); (first | (with_reducible exact (aggI).size) | (with_reducible exact (agg11).size) | (with_reducible exact (agg2b).size) | (with_reducible exact (oneInt).size) | (with_reducible exact (oneBool).size) | (with_reducible exact (oneU8).size) | (with_reducible exact (oneBs).size)); exact rfl; exact rfl; exact rfl; exact rfl; intro w' HM'; clear HM; have HM := HM'; clear HM'; all_goals skip))
  go_cut [9, 10] from 45 to 50 (fun s9 s10 wx => ∃ ha hb, s9 = .pointer (some ⟨ha, 0, none⟩) ∧ s10 = .pointer (some ⟨hb, 0, none⟩) ∧ Hid (Own w wx ((hb, 29, gcells fb gb) :: (ha, 29, gcells fa ga) :: [(g4, 24, [.int .u8 (z : Int), .int .u8 (r1 : Int), .int .u8 (r2 : Int), .int .u8 (r3 : Int), .int .u8 (r4 : Int), .int .u8 (r5 : Int), .int .u8 (r6 : Int), .int .u8 (r7 : Int), .int .u8 (r8 : Int), .int .u8 (b1 : Int), .int .u8 (r10 : Int)]), (g, 5, b8 m ys), (g3, 39, [.int .u8 (b0 : Int), .int .u8 (b1 : Int)]), (g2, 24, [.int .u8 (z : Int), .int .u8 (r1 : Int), .int .u8 (r2 : Int), .int .u8 (r3 : Int), .int .u8 (r4 : Int), .int .u8 (r5 : Int), .int .u8 (r6 : Int), .int .u8 (r7 : Int), .int .u8 (r8 : Int), .int .u8 (r9 : Int), .int .u8 (r10 : Int)]), (g1, 33, [.slice a1 n1 c1, .slice a2 n2 c2, .int .i64 many, .int .i64 at_])])))
  case' first =>
    refine wp_region_held (S := fun w' => Own w w' [(g4, 24, [.int .u8 (z : Int), .int .u8 (r1 : Int), .int .u8 (r2 : Int), .int .u8 (r3 : Int), .int .u8 (r4 : Int), .int .u8 (r5 : Int), .int .u8 (r6 : Int), .int .u8 (r7 : Int), .int .u8 (r8 : Int), .int .u8 (b1 : Int), .int .u8 (r10 : Int)]), (g, 5, b8 m ys), (g3, 39, [.int .u8 (b0 : Int), .int .u8 (b1 : Int)]), (g2, 24, [.int .u8 (z : Int), .int .u8 (r1 : Int), .int .u8 (r2 : Int), .int .u8 (r3 : Int), .int .u8 (r4 : Int), .int .u8 (r5 : Int), .int .u8 (r6 : Int), .int .u8 (r7 : Int), .int .u8 (r8 : Int), .int .u8 (r9 : Int), .int .u8 (r10 : Int)]), (g1, 33, [.slice a1 n1 c1, .slice a2 n2 c2, .int .i64 many, .int .i64 at_])]) (by kernel_rfl) ?_
    replace HM := Lib.hid HM.out.drew
    change wpAnyH _ _ _ _ _ _ _ _ (World.drew _)
    have HQ := HM.out
    refine h_take (i := 0) (d := 45) (v := .slice (some ⟨g, 0, none⟩) m m) rfl rfl (by kernel_rfl) (by kernel_rfl) (by kernel_rfl) (fun _ _ _ h => h) (y_pure rfl (fun w => by go_simp)) HQ ?_
    (try simp only [Act.put, List.setIfInBounds_toArray, List.set_cons_zero, List.set_cons_succ])
    refine h_take (i := 1) (d := 46) (v := .agg #[.int .u8 (z : Int), .int .u8 (r1 : Int), .int .u8 (r2 : Int), .int .u8 (r3 : Int), .int .u8 (r4 : Int), .int .u8 (r5 : Int), .int .u8 (r6 : Int), .int .u8 (r7 : Int), .int .u8 (r8 : Int), .int .u8 (r9 : Int), .int .u8 (r10 : Int)]) rfl rfl (by kernel_rfl) (by kernel_rfl) (by kernel_rfl) (fun _ _ _ h => h) (y_row (g := g2) rfl rfl agg11 (.s (.s (.s .z))) rfl rfl) HQ ?_
    (try simp only [Act.put, List.setIfInBounds_toArray, List.set_cons_zero, List.set_cons_succ])
    refine h_take (i := 3) (d := 48) (v := .slice (some ⟨g, 0, none⟩) m m) rfl rfl (by kernel_rfl) (by kernel_rfl) (by kernel_rfl) (fun _ _ _ h => h) (y_pure rfl (fun w => by go_simp)) HQ ?_
    (try simp only [Act.put, List.setIfInBounds_toArray, List.set_cons_zero, List.set_cons_succ])
    refine h_take (i := 4) (d := 49) (v := .agg #[.int .u8 (z : Int), .int .u8 (r1 : Int), .int .u8 (r2 : Int), .int .u8 (r3 : Int), .int .u8 (r4 : Int), .int .u8 (r5 : Int), .int .u8 (r6 : Int), .int .u8 (r7 : Int), .int .u8 (r8 : Int), .int .u8 (b1 : Int), .int .u8 (r10 : Int)]) rfl rfl (by kernel_rfl) (by kernel_rfl) (by kernel_rfl) (fun _ _ _ h => h) (y_row (g := g4) rfl rfl agg11 .z rfl rfl) HQ ?_
    (try simp only [Act.put, List.setIfInBounds_toArray, List.set_cons_zero, List.set_cons_succ])
    clear HQ
    have HM0 := HM
    clear HM
    refine wpAnyH_all (rs := [2, 6, 7]) (by kernel_rfl) (by simp) ?_
    intro i hi
    simp only [List.mem_cons, List.not_mem_nil, or_false] at hi
    rcases hi with rfl | rfl | rfl
    · refine wpOp_of rfl rfl ?_
      refine w_call (f := 10) (args := #[.slice (some ⟨g, 0, none⟩) m m, .agg #[.int .u8 (z : Int), .int .u8 (r1 : Int), .int .u8 (r2 : Int), .int .u8 (r3 : Int), .int .u8 (r4 : Int), .int .u8 (r5 : Int), .int .u8 (r6 : Int), .int .u8 (r7 : Int), .int .u8 (r8 : Int), .int .u8 (r9 : Int), .int .u8 (r10 : Int)], .int .i64 90]) (fun w => rfl) (by go_simp) ?_
      refine (line_in (some ⟨g, 0, none⟩) m m ys z r1 r2 r3 r4 r5 r6 r7 r8 r9 r10 90 HZ.out R2.out R8.out R9.out HL90.out 90 H90 fa ga hfa90 hga90 _ (HM0.out.byteRow (.s .z) HY.out)).mono ?_
      rintro e w0 ⟨rfl, hb⟩
      have HM1 := Lib.hid (HM0.out.call hb)
      refine ⟨_, rfl, HM1.out, ?_⟩
      clear hb HM0
      change wpAnyH _ _ _ _ _ _ _ (Act.put _ (some 47) _) _
      (try simp only [Act.put, List.setIfInBounds_toArray, List.set_cons_zero, List.set_cons_succ])
      refine wpAnyH_all (rs := [5, 6, 7]) (by kernel_rfl) (by simp) ?_
      intro i hi
      simp only [List.mem_cons, List.not_mem_nil, or_false] at hi
      rcases hi with rfl | rfl | rfl
      · refine wpOp_of rfl rfl ?_
        refine w_call (f := 10) (args := #[.slice (some ⟨g, 0, none⟩) m m, .agg #[.int .u8 (z : Int), .int .u8 (r1 : Int), .int .u8 (r2 : Int), .int .u8 (r3 : Int), .int .u8 (r4 : Int), .int .u8 (r5 : Int), .int .u8 (r6 : Int), .int .u8 (r7 : Int), .int .u8 (r8 : Int), .int .u8 (b1 : Int), .int .u8 (r10 : Int)], .int .i64 90]) (fun w => rfl) (by go_simp) ?_
        refine (line_in (some ⟨g, 0, none⟩) m m ys z r1 r2 r3 r4 r5 r6 r7 r8 b1 r10 90 HZ.out R2.out R8.out B1.out HL90.out 90 H90 fb gb hfb90 hgb90 _ (HM1.out.byteRow (.s .z) HY.out)).mono ?_
        rintro e w1 ⟨rfl, hb⟩
        have HM2 := Lib.hid (HM1.out.call hb)
        refine ⟨_, rfl, HM2.out, ?_⟩
        clear hb HM1
        change wpAnyH _ _ _ _ _ _ _ (Act.put _ (some 50) _) _
        (try simp only [Act.put, List.setIfInBounds_toArray, List.set_cons_zero, List.set_cons_succ])
        refine wpAnyH_all (rs := [6, 7]) (by kernel_rfl) (by simp) ?_
        intro i hi
        simp only [List.mem_cons, List.not_mem_nil, or_false] at hi
        rcases hi with rfl | rfl
        · refine wpOp_of rfl rfl ?_
          refine w_alloc HM2 rfl zeroG ?_
          intro w2 ha HM3
          refine ⟨HM3.out.forget, ?_⟩
          clear HM2
          change wpAnyH _ _ _ _ _ _ _ (Act.put _ (some 9) _) _
          (try simp only [Act.put, List.setIfInBounds_toArray, List.set_cons_zero, List.set_cons_succ])
          refine wpAnyH_all (rs := [7]) (by kernel_rfl) (by simp) ?_
          intro i hi
          obtain rfl := List.mem_singleton.1 hi
          refine wpOp_of rfl rfl ?_
          refine w_alloc HM3 rfl zeroG ?_
          intro w3 hb HM4
          refine ⟨HM4.out.forget.forget, ?_⟩
          clear HM3
          change wpAnyH _ _ _ _ _ _ _ (Act.put _ (some 10) _) _
          (try simp only [Act.put, List.setIfInBounds_toArray, List.set_cons_zero, List.set_cons_succ])
          refine wpAnyH_all (rs := [8]) (by kernel_rfl) (by simp) ?_
          intro i hi
          obtain rfl := List.mem_singleton.1 hi
          refine wpOp_of rfl rfl ?_
          refine w_lay HM4 rfl rfl rfl (.s .z) (.s .z) aggG.size (gcells_length _ _) (gcells_length _ _) (gcells_one _ _) rfl ?_
          intro w4 HM5
          refine ⟨HM5.out.forget.forget, ?_⟩
          clear HM4
          refine wpAnyH_all (rs := [9]) (by kernel_rfl) (by simp) ?_
          intro i hi
          obtain rfl := List.mem_singleton.1 hi
          refine wpOp_of rfl rfl ?_
          refine w_lay HM5 rfl rfl rfl .z .z aggG.size (gcells_length _ _) (gcells_length _ _) (gcells_one _ _) rfl ?_
          intro w5 HM6
          refine ⟨HM6.out.forget.forget, ?_⟩
          clear HM5
          refine wpAnyH_done (by kernel_rfl) ?_ _
          go_wp2_with fail
          go_meet
          exact ⟨ha, hb, rfl, rfl, HM6⟩
        · refine wpOp_of rfl rfl ?_
          refine w_alloc HM2 rfl zeroG ?_
          intro w2 hb HM3
          refine ⟨HM3.out.forget, ?_⟩
          clear HM2
          change wpAnyH _ _ _ _ _ _ _ (Act.put _ (some 10) _) _
          (try simp only [Act.put, List.setIfInBounds_toArray, List.set_cons_zero, List.set_cons_succ])
          refine wpAnyH_all (rs := [6]) (by kernel_rfl) (by simp) ?_
          intro i hi
          obtain rfl := List.mem_singleton.1 hi
          refine wpOp_of rfl rfl ?_
          refine w_alloc HM3 rfl zeroG ?_
          intro w3 ha HM4
          refine ⟨HM4.out.forget.forget, ?_⟩
          clear HM3
          change wpAnyH _ _ _ _ _ _ _ (Act.put _ (some 9) _) _
          (try simp only [Act.put, List.setIfInBounds_toArray, List.set_cons_zero, List.set_cons_succ])
          refine wpAnyH_all (rs := [8]) (by kernel_rfl) (by simp) ?_
          intro i hi
          obtain rfl := List.mem_singleton.1 hi
          refine wpOp_of rfl rfl ?_
          refine w_lay HM4 rfl rfl rfl .z .z aggG.size (gcells_length _ _) (gcells_length _ _) (gcells_one _ _) rfl ?_
          intro w4 HM5
          refine ⟨HM5.out.forget.forget, ?_⟩
          clear HM4
          refine wpAnyH_all (rs := [9]) (by kernel_rfl) (by simp) ?_
          intro i hi
          obtain rfl := List.mem_singleton.1 hi
          refine wpOp_of rfl rfl ?_
          refine w_lay HM5 rfl rfl rfl (.s .z) (.s .z) aggG.size (gcells_length _ _) (gcells_length _ _) (gcells_one _ _) rfl ?_
          intro w5 HM6
          refine ⟨HM6.out.forget.forget, ?_⟩
          clear HM5
          refine wpAnyH_done (by kernel_rfl) ?_ _
          go_wp2_with fail
          go_meet
          exact ⟨ha, hb, rfl, rfl, (Lib.hid HM6.out.swap2)⟩
      · refine wpOp_of rfl rfl ?_
        refine w_alloc HM1 rfl zeroG ?_
        intro w1 ha HM2
        refine ⟨HM2.out.forget, ?_⟩
        clear HM1
        change wpAnyH _ _ _ _ _ _ _ (Act.put _ (some 9) _) _
        (try simp only [Act.put, List.setIfInBounds_toArray, List.set_cons_zero, List.set_cons_succ])
        refine wpAnyH_all (rs := [5, 7]) (by kernel_rfl) (by simp) ?_
        intro i hi
        simp only [List.mem_cons, List.not_mem_nil, or_false] at hi
        rcases hi with rfl | rfl
        · refine wpOp_of rfl rfl ?_
          refine w_call (f := 10) (args := #[.slice (some ⟨g, 0, none⟩) m m, .agg #[.int .u8 (z : Int), .int .u8 (r1 : Int), .int .u8 (r2 : Int), .int .u8 (r3 : Int), .int .u8 (r4 : Int), .int .u8 (r5 : Int), .int .u8 (r6 : Int), .int .u8 (r7 : Int), .int .u8 (r8 : Int), .int .u8 (b1 : Int), .int .u8 (r10 : Int)], .int .i64 90]) (fun w => rfl) (by go_simp) ?_
          refine (line_in (some ⟨g, 0, none⟩) m m ys z r1 r2 r3 r4 r5 r6 r7 r8 b1 r10 90 HZ.out R2.out R8.out B1.out HL90.out 90 H90 fb gb hfb90 hgb90 _ (HM2.out.byteRow (.s (.s .z)) HY.out)).mono ?_
          rintro e w2 ⟨rfl, hb⟩
          have HM3 := Lib.hid (HM2.out.call hb)
          refine ⟨_, rfl, HM3.out.forget, ?_⟩
          clear hb HM2
          change wpAnyH _ _ _ _ _ _ _ (Act.put _ (some 50) _) _
          (try simp only [Act.put, List.setIfInBounds_toArray, List.set_cons_zero, List.set_cons_succ])
          refine wpAnyH_all (rs := [7]) (by kernel_rfl) (by simp) ?_
          intro i hi
          obtain rfl := List.mem_singleton.1 hi
          refine wpOp_of rfl rfl ?_
          refine w_alloc HM3 rfl zeroG ?_
          intro w3 hb HM4
          refine ⟨HM4.out.forget.forget, ?_⟩
          clear HM3
          change wpAnyH _ _ _ _ _ _ _ (Act.put _ (some 10) _) _
          (try simp only [Act.put, List.setIfInBounds_toArray, List.set_cons_zero, List.set_cons_succ])
          refine wpAnyH_all (rs := [8]) (by kernel_rfl) (by simp) ?_
          intro i hi
          obtain rfl := List.mem_singleton.1 hi
          refine wpOp_of rfl rfl ?_
          refine w_lay HM4 rfl rfl rfl (.s .z) (.s .z) aggG.size (gcells_length _ _) (gcells_length _ _) (gcells_one _ _) rfl ?_
          intro w4 HM5
          refine ⟨HM5.out.forget.forget, ?_⟩
          clear HM4
          refine wpAnyH_all (rs := [9]) (by kernel_rfl) (by simp) ?_
          intro i hi
          obtain rfl := List.mem_singleton.1 hi
          refine wpOp_of rfl rfl ?_
          refine w_lay HM5 rfl rfl rfl .z .z aggG.size (gcells_length _ _) (gcells_length _ _) (gcells_one _ _) rfl ?_
          intro w5 HM6
          refine ⟨HM6.out.forget.forget, ?_⟩
          clear HM5
          refine wpAnyH_done (by kernel_rfl) ?_ _
          go_wp2_with fail
          go_meet
          exact ⟨ha, hb, rfl, rfl, HM6⟩
        · refine wpOp_of rfl rfl ?_
          refine w_alloc HM2 rfl zeroG ?_
          intro w2 hb HM3
          refine ⟨HM3.out.forget.forget, ?_⟩
          clear HM2
          change wpAnyH _ _ _ _ _ _ _ (Act.put _ (some 10) _) _
          (try simp only [Act.put, List.setIfInBounds_toArray, List.set_cons_zero, List.set_cons_succ])
          refine wpAnyH_all (rs := [5]) (by kernel_rfl) (by simp) ?_
          intro i hi
          obtain rfl := List.mem_singleton.1 hi
          refine wpOp_of rfl rfl ?_
          refine w_call (f := 10) (args := #[.slice (some ⟨g, 0, none⟩) m m, .agg #[.int .u8 (z : Int), .int .u8 (r1 : Int), .int .u8 (r2 : Int), .int .u8 (r3 : Int), .int .u8 (r4 : Int), .int .u8 (r5 : Int), .int .u8 (r6 : Int), .int .u8 (r7 : Int), .int .u8 (r8 : Int), .int .u8 (b1 : Int), .int .u8 (r10 : Int)], .int .i64 90]) (fun w => rfl) (by go_simp) ?_
          refine (line_in (some ⟨g, 0, none⟩) m m ys z r1 r2 r3 r4 r5 r6 r7 r8 b1 r10 90 HZ.out R2.out R8.out B1.out HL90.out 90 H90 fb gb hfb90 hgb90 _ (HM3.out.byteRow (.s (.s (.s .z))) HY.out)).mono ?_
          rintro e w3 ⟨rfl, hb⟩
          have HM4 := Lib.hid (HM3.out.call hb)
          refine ⟨_, rfl, HM4.out.forget.forget, ?_⟩
          clear hb HM3
          change wpAnyH _ _ _ _ _ _ _ (Act.put _ (some 50) _) _
          (try simp only [Act.put, List.setIfInBounds_toArray, List.set_cons_zero, List.set_cons_succ])
          refine wpAnyH_all (rs := [8]) (by kernel_rfl) (by simp) ?_
          intro i hi
          obtain rfl := List.mem_singleton.1 hi
          refine wpOp_of rfl rfl ?_
          refine w_lay HM4 rfl rfl rfl (.s .z) (.s .z) aggG.size (gcells_length _ _) (gcells_length _ _) (gcells_one _ _) rfl ?_
          intro w4 HM5
          refine ⟨HM5.out.forget.forget, ?_⟩
          clear HM4
          refine wpAnyH_all (rs := [9]) (by kernel_rfl) (by simp) ?_
          intro i hi
          obtain rfl := List.mem_singleton.1 hi
          refine wpOp_of rfl rfl ?_
          refine w_lay HM5 rfl rfl rfl .z .z aggG.size (gcells_length _ _) (gcells_length _ _) (gcells_one _ _) rfl ?_
          intro w5 HM6
          refine ⟨HM6.out.forget.forget, ?_⟩
          clear HM5
          refine wpAnyH_done (by kernel_rfl) ?_ _
          go_wp2_with fail
          go_meet
          exact ⟨ha, hb, rfl, rfl, HM6⟩
      · refine wpOp_of rfl rfl ?_
        refine w_alloc HM1 rfl zeroG ?_
        intro w1 hb HM2
        refine ⟨HM2.out.forget, ?_⟩
        clear HM1
        change wpAnyH _ _ _ _ _ _ _ (Act.put _ (some 10) _) _
        (try simp only [Act.put, List.setIfInBounds_toArray, List.set_cons_zero, List.set_cons_succ])
        refine wpAnyH_all (rs := [5, 6]) (by kernel_rfl) (by simp) ?_
        intro i hi
        simp only [List.mem_cons, List.not_mem_nil, or_false] at hi
        rcases hi with rfl | rfl
        · refine wpOp_of rfl rfl ?_
          refine w_call (f := 10) (args := #[.slice (some ⟨g, 0, none⟩) m m, .agg #[.int .u8 (z : Int), .int .u8 (r1 : Int), .int .u8 (r2 : Int), .int .u8 (r3 : Int), .int .u8 (r4 : Int), .int .u8 (r5 : Int), .int .u8 (r6 : Int), .int .u8 (r7 : Int), .int .u8 (r8 : Int), .int .u8 (b1 : Int), .int .u8 (r10 : Int)], .int .i64 90]) (fun w => rfl) (by go_simp) ?_
          refine (line_in (some ⟨g, 0, none⟩) m m ys z r1 r2 r3 r4 r5 r6 r7 r8 b1 r10 90 HZ.out R2.out R8.out B1.out HL90.out 90 H90 fb gb hfb90 hgb90 _ (HM2.out.byteRow (.s (.s .z)) HY.out)).mono ?_
          rintro e w2 ⟨rfl, hb⟩
          have HM3 := Lib.hid (HM2.out.call hb)
          refine ⟨_, rfl, HM3.out.forget, ?_⟩
          clear hb HM2
          change wpAnyH _ _ _ _ _ _ _ (Act.put _ (some 50) _) _
          (try simp only [Act.put, List.setIfInBounds_toArray, List.set_cons_zero, List.set_cons_succ])
          refine wpAnyH_all (rs := [6]) (by kernel_rfl) (by simp) ?_
          intro i hi
          obtain rfl := List.mem_singleton.1 hi
          refine wpOp_of rfl rfl ?_
          refine w_alloc HM3 rfl zeroG ?_
          intro w3 ha HM4
          refine ⟨HM4.out.forget.forget, ?_⟩
          clear HM3
          change wpAnyH _ _ _ _ _ _ _ (Act.put _ (some 9) _) _
          (try simp only [Act.put, List.setIfInBounds_toArray, List.set_cons_zero, List.set_cons_succ])
          refine wpAnyH_all (rs := [8]) (by kernel_rfl) (by simp) ?_
          intro i hi
          obtain rfl := List.mem_singleton.1 hi
          refine wpOp_of rfl rfl ?_
          refine w_lay HM4 rfl rfl rfl .z .z aggG.size (gcells_length _ _) (gcells_length _ _) (gcells_one _ _) rfl ?_
          intro w4 HM5
          refine ⟨HM5.out.forget.forget, ?_⟩
          clear HM4
          refine wpAnyH_all (rs := [9]) (by kernel_rfl) (by simp) ?_
          intro i hi
          obtain rfl := List.mem_singleton.1 hi
          refine wpOp_of rfl rfl ?_
          refine w_lay HM5 rfl rfl rfl (.s .z) (.s .z) aggG.size (gcells_length _ _) (gcells_length _ _) (gcells_one _ _) rfl ?_
          intro w5 HM6
          refine ⟨HM6.out.forget.forget, ?_⟩
          clear HM5
          refine wpAnyH_done (by kernel_rfl) ?_ _
          go_wp2_with fail
          go_meet
          exact ⟨ha, hb, rfl, rfl, (Lib.hid HM6.out.swap2)⟩
        · refine wpOp_of rfl rfl ?_
          refine w_alloc HM2 rfl zeroG ?_
          intro w2 ha HM3
          refine ⟨HM3.out.forget.forget, ?_⟩
          clear HM2
          change wpAnyH _ _ _ _ _ _ _ (Act.put _ (some 9) _) _
          (try simp only [Act.put, List.setIfInBounds_toArray, List.set_cons_zero, List.set_cons_succ])
          refine wpAnyH_all (rs := [5]) (by kernel_rfl) (by simp) ?_
          intro i hi
          obtain rfl := List.mem_singleton.1 hi
          refine wpOp_of rfl rfl ?_
          refine w_call (f := 10) (args := #[.slice (some ⟨g, 0, none⟩) m m, .agg #[.int .u8 (z : Int), .int .u8 (r1 : Int), .int .u8 (r2 : Int), .int .u8 (r3 : Int), .int .u8 (r4 : Int), .int .u8 (r5 : Int), .int .u8 (r6 : Int), .int .u8 (r7 : Int), .int .u8 (r8 : Int), .int .u8 (b1 : Int), .int .u8 (r10 : Int)], .int .i64 90]) (fun w => rfl) (by go_simp) ?_
          refine (line_in (some ⟨g, 0, none⟩) m m ys z r1 r2 r3 r4 r5 r6 r7 r8 b1 r10 90 HZ.out R2.out R8.out B1.out HL90.out 90 H90 fb gb hfb90 hgb90 _ (HM3.out.byteRow (.s (.s (.s .z))) HY.out)).mono ?_
          rintro e w3 ⟨rfl, hb⟩
          have HM4 := Lib.hid (HM3.out.call hb)
          refine ⟨_, rfl, HM4.out.forget.forget, ?_⟩
          clear hb HM3
          change wpAnyH _ _ _ _ _ _ _ (Act.put _ (some 50) _) _
          (try simp only [Act.put, List.setIfInBounds_toArray, List.set_cons_zero, List.set_cons_succ])
          refine wpAnyH_all (rs := [8]) (by kernel_rfl) (by simp) ?_
          intro i hi
          obtain rfl := List.mem_singleton.1 hi
          refine wpOp_of rfl rfl ?_
          refine w_lay HM4 rfl rfl rfl .z .z aggG.size (gcells_length _ _) (gcells_length _ _) (gcells_one _ _) rfl ?_
          intro w4 HM5
          refine ⟨HM5.out.forget.forget, ?_⟩
          clear HM4
          refine wpAnyH_all (rs := [9]) (by kernel_rfl) (by simp) ?_
          intro i hi
          obtain rfl := List.mem_singleton.1 hi
          refine wpOp_of rfl rfl ?_
          refine w_lay HM5 rfl rfl rfl (.s .z) (.s .z) aggG.size (gcells_length _ _) (gcells_length _ _) (gcells_one _ _) rfl ?_
          intro w5 HM6
          refine ⟨HM6.out.forget.forget, ?_⟩
          clear HM5
          refine wpAnyH_done (by kernel_rfl) ?_ _
          go_wp2_with fail
          go_meet
          exact ⟨ha, hb, rfl, rfl, (Lib.hid HM6.out.swap2)⟩
    · refine wpOp_of rfl rfl ?_
      refine w_alloc HM0 rfl zeroG ?_
      intro w0 ha HM1
      refine ⟨HM1.out.forget, ?_⟩
      clear HM0
      change wpAnyH _ _ _ _ _ _ _ (Act.put _ (some 9) _) _
      (try simp only [Act.put, List.setIfInBounds_toArray, List.set_cons_zero, List.set_cons_succ])
      refine wpAnyH_all (rs := [2, 7]) (by kernel_rfl) (by simp) ?_
      intro i hi
      simp only [List.mem_cons, List.not_mem_nil, or_false] at hi
      rcases hi with rfl | rfl
      · refine wpOp_of rfl rfl ?_
        refine w_call (f := 10) (args := #[.slice (some ⟨g, 0, none⟩) m m, .agg #[.int .u8 (z : Int), .int .u8 (r1 : Int), .int .u8 (r2 : Int), .int .u8 (r3 : Int), .int .u8 (r4 : Int), .int .u8 (r5 : Int), .int .u8 (r6 : Int), .int .u8 (r7 : Int), .int .u8 (r8 : Int), .int .u8 (r9 : Int), .int .u8 (r10 : Int)], .int .i64 90]) (fun w => rfl) (by go_simp) ?_
        refine (line_in (some ⟨g, 0, none⟩) m m ys z r1 r2 r3 r4 r5 r6 r7 r8 r9 r10 90 HZ.out R2.out R8.out R9.out HL90.out 90 H90 fa ga hfa90 hga90 _ (HM1.out.byteRow (.s (.s .z)) HY.out)).mono ?_
        rintro e w1 ⟨rfl, hb⟩
        have HM2 := Lib.hid (HM1.out.call hb)
        refine ⟨_, rfl, HM2.out.forget, ?_⟩
        clear hb HM1
        change wpAnyH _ _ _ _ _ _ _ (Act.put _ (some 47) _) _
        (try simp only [Act.put, List.setIfInBounds_toArray, List.set_cons_zero, List.set_cons_succ])
        refine wpAnyH_all (rs := [5, 7]) (by kernel_rfl) (by simp) ?_
        intro i hi
        simp only [List.mem_cons, List.not_mem_nil, or_false] at hi
        rcases hi with rfl | rfl
        · refine wpOp_of rfl rfl ?_
          refine w_call (f := 10) (args := #[.slice (some ⟨g, 0, none⟩) m m, .agg #[.int .u8 (z : Int), .int .u8 (r1 : Int), .int .u8 (r2 : Int), .int .u8 (r3 : Int), .int .u8 (r4 : Int), .int .u8 (r5 : Int), .int .u8 (r6 : Int), .int .u8 (r7 : Int), .int .u8 (r8 : Int), .int .u8 (b1 : Int), .int .u8 (r10 : Int)], .int .i64 90]) (fun w => rfl) (by go_simp) ?_
          refine (line_in (some ⟨g, 0, none⟩) m m ys z r1 r2 r3 r4 r5 r6 r7 r8 b1 r10 90 HZ.out R2.out R8.out B1.out HL90.out 90 H90 fb gb hfb90 hgb90 _ (HM2.out.byteRow (.s (.s .z)) HY.out)).mono ?_
          rintro e w2 ⟨rfl, hb⟩
          have HM3 := Lib.hid (HM2.out.call hb)
          refine ⟨_, rfl, HM3.out.forget, ?_⟩
          clear hb HM2
          change wpAnyH _ _ _ _ _ _ _ (Act.put _ (some 50) _) _
          (try simp only [Act.put, List.setIfInBounds_toArray, List.set_cons_zero, List.set_cons_succ])
          refine wpAnyH_all (rs := [7]) (by kernel_rfl) (by simp) ?_
          intro i hi
          obtain rfl := List.mem_singleton.1 hi
          refine wpOp_of rfl rfl ?_
          refine w_alloc HM3 rfl zeroG ?_
          intro w3 hb HM4
          refine ⟨HM4.out.forget.forget, ?_⟩
          clear HM3
          change wpAnyH _ _ _ _ _ _ _ (Act.put _ (some 10) _) _
          (try simp only [Act.put, List.setIfInBounds_toArray, List.set_cons_zero, List.set_cons_succ])
          refine wpAnyH_all (rs := [8]) (by kernel_rfl) (by simp) ?_
          intro i hi
          obtain rfl := List.mem_singleton.1 hi
          refine wpOp_of rfl rfl ?_
          refine w_lay HM4 rfl rfl rfl (.s .z) (.s .z) aggG.size (gcells_length _ _) (gcells_length _ _) (gcells_one _ _) rfl ?_
          intro w4 HM5
          refine ⟨HM5.out.forget.forget, ?_⟩
          clear HM4
          refine wpAnyH_all (rs := [9]) (by kernel_rfl) (by simp) ?_
          intro i hi
          obtain rfl := List.mem_singleton.1 hi
          refine wpOp_of rfl rfl ?_
          refine w_lay HM5 rfl rfl rfl .z .z aggG.size (gcells_length _ _) (gcells_length _ _) (gcells_one _ _) rfl ?_
          intro w5 HM6
          refine ⟨HM6.out.forget.forget, ?_⟩
          clear HM5
          refine wpAnyH_done (by kernel_rfl) ?_ _
          go_wp2_with fail
          go_meet
          exact ⟨ha, hb, rfl, rfl, HM6⟩
        · refine wpOp_of rfl rfl ?_
          refine w_alloc HM2 rfl zeroG ?_
          intro w2 hb HM3
          refine ⟨HM3.out.forget.forget, ?_⟩
          clear HM2
          change wpAnyH _ _ _ _ _ _ _ (Act.put _ (some 10) _) _
          (try simp only [Act.put, List.setIfInBounds_toArray, List.set_cons_zero, List.set_cons_succ])
          refine wpAnyH_all (rs := [5]) (by kernel_rfl) (by simp) ?_
          intro i hi
          obtain rfl := List.mem_singleton.1 hi
          refine wpOp_of rfl rfl ?_
          refine w_call (f := 10) (args := #[.slice (some ⟨g, 0, none⟩) m m, .agg #[.int .u8 (z : Int), .int .u8 (r1 : Int), .int .u8 (r2 : Int), .int .u8 (r3 : Int), .int .u8 (r4 : Int), .int .u8 (r5 : Int), .int .u8 (r6 : Int), .int .u8 (r7 : Int), .int .u8 (r8 : Int), .int .u8 (b1 : Int), .int .u8 (r10 : Int)], .int .i64 90]) (fun w => rfl) (by go_simp) ?_
          refine (line_in (some ⟨g, 0, none⟩) m m ys z r1 r2 r3 r4 r5 r6 r7 r8 b1 r10 90 HZ.out R2.out R8.out B1.out HL90.out 90 H90 fb gb hfb90 hgb90 _ (HM3.out.byteRow (.s (.s (.s .z))) HY.out)).mono ?_
          rintro e w3 ⟨rfl, hb⟩
          have HM4 := Lib.hid (HM3.out.call hb)
          refine ⟨_, rfl, HM4.out.forget.forget, ?_⟩
          clear hb HM3
          change wpAnyH _ _ _ _ _ _ _ (Act.put _ (some 50) _) _
          (try simp only [Act.put, List.setIfInBounds_toArray, List.set_cons_zero, List.set_cons_succ])
          refine wpAnyH_all (rs := [8]) (by kernel_rfl) (by simp) ?_
          intro i hi
          obtain rfl := List.mem_singleton.1 hi
          refine wpOp_of rfl rfl ?_
          refine w_lay HM4 rfl rfl rfl (.s .z) (.s .z) aggG.size (gcells_length _ _) (gcells_length _ _) (gcells_one _ _) rfl ?_
          intro w4 HM5
          refine ⟨HM5.out.forget.forget, ?_⟩
          clear HM4
          refine wpAnyH_all (rs := [9]) (by kernel_rfl) (by simp) ?_
          intro i hi
          obtain rfl := List.mem_singleton.1 hi
          refine wpOp_of rfl rfl ?_
          refine w_lay HM5 rfl rfl rfl .z .z aggG.size (gcells_length _ _) (gcells_length _ _) (gcells_one _ _) rfl ?_
          intro w5 HM6
          refine ⟨HM6.out.forget.forget, ?_⟩
          clear HM5
          refine wpAnyH_done (by kernel_rfl) ?_ _
          go_wp2_with fail
          go_meet
          exact ⟨ha, hb, rfl, rfl, HM6⟩
      · refine wpOp_of rfl rfl ?_
        refine w_alloc HM1 rfl zeroG ?_
        intro w1 hb HM2
        refine ⟨HM2.out.forget.forget, ?_⟩
        clear HM1
        change wpAnyH _ _ _ _ _ _ _ (Act.put _ (some 10) _) _
        (try simp only [Act.put, List.setIfInBounds_toArray, List.set_cons_zero, List.set_cons_succ])
        refine wpAnyH_all (rs := [2]) (by kernel_rfl) (by simp) ?_
        intro i hi
        obtain rfl := List.mem_singleton.1 hi
        refine wpOp_of rfl rfl ?_
        refine w_call (f := 10) (args := #[.slice (some ⟨g, 0, none⟩) m m, .agg #[.int .u8 (z : Int), .int .u8 (r1 : Int), .int .u8 (r2 : Int), .int .u8 (r3 : Int), .int .u8 (r4 : Int), .int .u8 (r5 : Int), .int .u8 (r6 : Int), .int .u8 (r7 : Int), .int .u8 (r8 : Int), .int .u8 (r9 : Int), .int .u8 (r10 : Int)], .int .i64 90]) (fun w => rfl) (by go_simp) ?_
        refine (line_in (some ⟨g, 0, none⟩) m m ys z r1 r2 r3 r4 r5 r6 r7 r8 r9 r10 90 HZ.out R2.out R8.out R9.out HL90.out 90 H90 fa ga hfa90 hga90 _ (HM2.out.byteRow (.s (.s (.s .z))) HY.out)).mono ?_
        rintro e w2 ⟨rfl, hb⟩
        have HM3 := Lib.hid (HM2.out.call hb)
        refine ⟨_, rfl, HM3.out.forget.forget, ?_⟩
        clear hb HM2
        change wpAnyH _ _ _ _ _ _ _ (Act.put _ (some 47) _) _
        (try simp only [Act.put, List.setIfInBounds_toArray, List.set_cons_zero, List.set_cons_succ])
        refine wpAnyH_all (rs := [5]) (by kernel_rfl) (by simp) ?_
        intro i hi
        obtain rfl := List.mem_singleton.1 hi
        refine wpOp_of rfl rfl ?_
        refine w_call (f := 10) (args := #[.slice (some ⟨g, 0, none⟩) m m, .agg #[.int .u8 (z : Int), .int .u8 (r1 : Int), .int .u8 (r2 : Int), .int .u8 (r3 : Int), .int .u8 (r4 : Int), .int .u8 (r5 : Int), .int .u8 (r6 : Int), .int .u8 (r7 : Int), .int .u8 (r8 : Int), .int .u8 (b1 : Int), .int .u8 (r10 : Int)], .int .i64 90]) (fun w => rfl) (by go_simp) ?_
        refine (line_in (some ⟨g, 0, none⟩) m m ys z r1 r2 r3 r4 r5 r6 r7 r8 b1 r10 90 HZ.out R2.out R8.out B1.out HL90.out 90 H90 fb gb hfb90 hgb90 _ (HM3.out.byteRow (.s (.s (.s .z))) HY.out)).mono ?_
        rintro e w3 ⟨rfl, hb⟩
        have HM4 := Lib.hid (HM3.out.call hb)
        refine ⟨_, rfl, HM4.out.forget.forget, ?_⟩
        clear hb HM3
        change wpAnyH _ _ _ _ _ _ _ (Act.put _ (some 50) _) _
        (try simp only [Act.put, List.setIfInBounds_toArray, List.set_cons_zero, List.set_cons_succ])
        refine wpAnyH_all (rs := [8]) (by kernel_rfl) (by simp) ?_
        intro i hi
        obtain rfl := List.mem_singleton.1 hi
        refine wpOp_of rfl rfl ?_
        refine w_lay HM4 rfl rfl rfl (.s .z) (.s .z) aggG.size (gcells_length _ _) (gcells_length _ _) (gcells_one _ _) rfl ?_
        intro w4 HM5
        refine ⟨HM5.out.forget.forget, ?_⟩
        clear HM4
        refine wpAnyH_all (rs := [9]) (by kernel_rfl) (by simp) ?_
        intro i hi
        obtain rfl := List.mem_singleton.1 hi
        refine wpOp_of rfl rfl ?_
        refine w_lay HM5 rfl rfl rfl .z .z aggG.size (gcells_length _ _) (gcells_length _ _) (gcells_one _ _) rfl ?_
        intro w5 HM6
        refine ⟨HM6.out.forget.forget, ?_⟩
        clear HM5
        refine wpAnyH_done (by kernel_rfl) ?_ _
        go_wp2_with fail
        go_meet
        exact ⟨ha, hb, rfl, rfl, HM6⟩
    · refine wpOp_of rfl rfl ?_
      refine w_alloc HM0 rfl zeroG ?_
      intro w0 hb HM1
      refine ⟨HM1.out.forget, ?_⟩
      clear HM0
      change wpAnyH _ _ _ _ _ _ _ (Act.put _ (some 10) _) _
      (try simp only [Act.put, List.setIfInBounds_toArray, List.set_cons_zero, List.set_cons_succ])
      refine wpAnyH_all (rs := [2, 6]) (by kernel_rfl) (by simp) ?_
      intro i hi
      simp only [List.mem_cons, List.not_mem_nil, or_false] at hi
      rcases hi with rfl | rfl
      · refine wpOp_of rfl rfl ?_
        refine w_call (f := 10) (args := #[.slice (some ⟨g, 0, none⟩) m m, .agg #[.int .u8 (z : Int), .int .u8 (r1 : Int), .int .u8 (r2 : Int), .int .u8 (r3 : Int), .int .u8 (r4 : Int), .int .u8 (r5 : Int), .int .u8 (r6 : Int), .int .u8 (r7 : Int), .int .u8 (r8 : Int), .int .u8 (r9 : Int), .int .u8 (r10 : Int)], .int .i64 90]) (fun w => rfl) (by go_simp) ?_
        refine (line_in (some ⟨g, 0, none⟩) m m ys z r1 r2 r3 r4 r5 r6 r7 r8 r9 r10 90 HZ.out R2.out R8.out R9.out HL90.out 90 H90 fa ga hfa90 hga90 _ (HM1.out.byteRow (.s (.s .z)) HY.out)).mono ?_
        rintro e w1 ⟨rfl, hb⟩
        have HM2 := Lib.hid (HM1.out.call hb)
        refine ⟨_, rfl, HM2.out.forget, ?_⟩
        clear hb HM1
        change wpAnyH _ _ _ _ _ _ _ (Act.put _ (some 47) _) _
        (try simp only [Act.put, List.setIfInBounds_toArray, List.set_cons_zero, List.set_cons_succ])
        refine wpAnyH_all (rs := [5, 6]) (by kernel_rfl) (by simp) ?_
        intro i hi
        simp only [List.mem_cons, List.not_mem_nil, or_false] at hi
        rcases hi with rfl | rfl
        · refine wpOp_of rfl rfl ?_
          refine w_call (f := 10) (args := #[.slice (some ⟨g, 0, none⟩) m m, .agg #[.int .u8 (z : Int), .int .u8 (r1 : Int), .int .u8 (r2 : Int), .int .u8 (r3 : Int), .int .u8 (r4 : Int), .int .u8 (r5 : Int), .int .u8 (r6 : Int), .int .u8 (r7 : Int), .int .u8 (r8 : Int), .int .u8 (b1 : Int), .int .u8 (r10 : Int)], .int .i64 90]) (fun w => rfl) (by go_simp) ?_
          refine (line_in (some ⟨g, 0, none⟩) m m ys z r1 r2 r3 r4 r5 r6 r7 r8 b1 r10 90 HZ.out R2.out R8.out B1.out HL90.out 90 H90 fb gb hfb90 hgb90 _ (HM2.out.byteRow (.s (.s .z)) HY.out)).mono ?_
          rintro e w2 ⟨rfl, hb⟩
          have HM3 := Lib.hid (HM2.out.call hb)
          refine ⟨_, rfl, HM3.out.forget, ?_⟩
          clear hb HM2
          change wpAnyH _ _ _ _ _ _ _ (Act.put _ (some 50) _) _
          (try simp only [Act.put, List.setIfInBounds_toArray, List.set_cons_zero, List.set_cons_succ])
          refine wpAnyH_all (rs := [6]) (by kernel_rfl) (by simp) ?_
          intro i hi
          obtain rfl := List.mem_singleton.1 hi
          refine wpOp_of rfl rfl ?_
          refine w_alloc HM3 rfl zeroG ?_
          intro w3 ha HM4
          refine ⟨HM4.out.forget.forget, ?_⟩
          clear HM3
          change wpAnyH _ _ _ _ _ _ _ (Act.put _ (some 9) _) _
          (try simp only [Act.put, List.setIfInBounds_toArray, List.set_cons_zero, List.set_cons_succ])
          refine wpAnyH_all (rs := [8]) (by kernel_rfl) (by simp) ?_
          intro i hi
          obtain rfl := List.mem_singleton.1 hi
          refine wpOp_of rfl rfl ?_
          refine w_lay HM4 rfl rfl rfl .z .z aggG.size (gcells_length _ _) (gcells_length _ _) (gcells_one _ _) rfl ?_
          intro w4 HM5
          refine ⟨HM5.out.forget.forget, ?_⟩
          clear HM4
          refine wpAnyH_all (rs := [9]) (by kernel_rfl) (by simp) ?_
          intro i hi
          obtain rfl := List.mem_singleton.1 hi
          refine wpOp_of rfl rfl ?_
          refine w_lay HM5 rfl rfl rfl (.s .z) (.s .z) aggG.size (gcells_length _ _) (gcells_length _ _) (gcells_one _ _) rfl ?_
          intro w5 HM6
          refine ⟨HM6.out.forget.forget, ?_⟩
          clear HM5
          refine wpAnyH_done (by kernel_rfl) ?_ _
          go_wp2_with fail
          go_meet
          exact ⟨ha, hb, rfl, rfl, (Lib.hid HM6.out.swap2)⟩
        · refine wpOp_of rfl rfl ?_
          refine w_alloc HM2 rfl zeroG ?_
          intro w2 ha HM3
          refine ⟨HM3.out.forget.forget, ?_⟩
          clear HM2
          change wpAnyH _ _ _ _ _ _ _ (Act.put _ (some 9) _) _
          (try simp only [Act.put, List.setIfInBounds_toArray, List.set_cons_zero, List.set_cons_succ])
          refine wpAnyH_all (rs := [5]) (by kernel_rfl) (by simp) ?_
          intro i hi
          obtain rfl := List.mem_singleton.1 hi
          refine wpOp_of rfl rfl ?_
          refine w_call (f := 10) (args := #[.slice (some ⟨g, 0, none⟩) m m, .agg #[.int .u8 (z : Int), .int .u8 (r1 : Int), .int .u8 (r2 : Int), .int .u8 (r3 : Int), .int .u8 (r4 : Int), .int .u8 (r5 : Int), .int .u8 (r6 : Int), .int .u8 (r7 : Int), .int .u8 (r8 : Int), .int .u8 (b1 : Int), .int .u8 (r10 : Int)], .int .i64 90]) (fun w => rfl) (by go_simp) ?_
          refine (line_in (some ⟨g, 0, none⟩) m m ys z r1 r2 r3 r4 r5 r6 r7 r8 b1 r10 90 HZ.out R2.out R8.out B1.out HL90.out 90 H90 fb gb hfb90 hgb90 _ (HM3.out.byteRow (.s (.s (.s .z))) HY.out)).mono ?_
          rintro e w3 ⟨rfl, hb⟩
          have HM4 := Lib.hid (HM3.out.call hb)
          refine ⟨_, rfl, HM4.out.forget.forget, ?_⟩
          clear hb HM3
          change wpAnyH _ _ _ _ _ _ _ (Act.put _ (some 50) _) _
          (try simp only [Act.put, List.setIfInBounds_toArray, List.set_cons_zero, List.set_cons_succ])
          refine wpAnyH_all (rs := [8]) (by kernel_rfl) (by simp) ?_
          intro i hi
          obtain rfl := List.mem_singleton.1 hi
          refine wpOp_of rfl rfl ?_
          refine w_lay HM4 rfl rfl rfl .z .z aggG.size (gcells_length _ _) (gcells_length _ _) (gcells_one _ _) rfl ?_
          intro w4 HM5
          refine ⟨HM5.out.forget.forget, ?_⟩
          clear HM4
          refine wpAnyH_all (rs := [9]) (by kernel_rfl) (by simp) ?_
          intro i hi
          obtain rfl := List.mem_singleton.1 hi
          refine wpOp_of rfl rfl ?_
          refine w_lay HM5 rfl rfl rfl (.s .z) (.s .z) aggG.size (gcells_length _ _) (gcells_length _ _) (gcells_one _ _) rfl ?_
          intro w5 HM6
          refine ⟨HM6.out.forget.forget, ?_⟩
          clear HM5
          refine wpAnyH_done (by kernel_rfl) ?_ _
          go_wp2_with fail
          go_meet
          exact ⟨ha, hb, rfl, rfl, (Lib.hid HM6.out.swap2)⟩
      · refine wpOp_of rfl rfl ?_
        refine w_alloc HM1 rfl zeroG ?_
        intro w1 ha HM2
        refine ⟨HM2.out.forget.forget, ?_⟩
        clear HM1
        change wpAnyH _ _ _ _ _ _ _ (Act.put _ (some 9) _) _
        (try simp only [Act.put, List.setIfInBounds_toArray, List.set_cons_zero, List.set_cons_succ])
        refine wpAnyH_all (rs := [2]) (by kernel_rfl) (by simp) ?_
        intro i hi
        obtain rfl := List.mem_singleton.1 hi
        refine wpOp_of rfl rfl ?_
        refine w_call (f := 10) (args := #[.slice (some ⟨g, 0, none⟩) m m, .agg #[.int .u8 (z : Int), .int .u8 (r1 : Int), .int .u8 (r2 : Int), .int .u8 (r3 : Int), .int .u8 (r4 : Int), .int .u8 (r5 : Int), .int .u8 (r6 : Int), .int .u8 (r7 : Int), .int .u8 (r8 : Int), .int .u8 (r9 : Int), .int .u8 (r10 : Int)], .int .i64 90]) (fun w => rfl) (by go_simp) ?_
        refine (line_in (some ⟨g, 0, none⟩) m m ys z r1 r2 r3 r4 r5 r6 r7 r8 r9 r10 90 HZ.out R2.out R8.out R9.out HL90.out 90 H90 fa ga hfa90 hga90 _ (HM2.out.byteRow (.s (.s (.s .z))) HY.out)).mono ?_
        rintro e w2 ⟨rfl, hb⟩
        have HM3 := Lib.hid (HM2.out.call hb)
        refine ⟨_, rfl, HM3.out.forget.forget, ?_⟩
        clear hb HM2
        change wpAnyH _ _ _ _ _ _ _ (Act.put _ (some 47) _) _
        (try simp only [Act.put, List.setIfInBounds_toArray, List.set_cons_zero, List.set_cons_succ])
        refine wpAnyH_all (rs := [5]) (by kernel_rfl) (by simp) ?_
        intro i hi
        obtain rfl := List.mem_singleton.1 hi
        refine wpOp_of rfl rfl ?_
        refine w_call (f := 10) (args := #[.slice (some ⟨g, 0, none⟩) m m, .agg #[.int .u8 (z : Int), .int .u8 (r1 : Int), .int .u8 (r2 : Int), .int .u8 (r3 : Int), .int .u8 (r4 : Int), .int .u8 (r5 : Int), .int .u8 (r6 : Int), .int .u8 (r7 : Int), .int .u8 (r8 : Int), .int .u8 (b1 : Int), .int .u8 (r10 : Int)], .int .i64 90]) (fun w => rfl) (by go_simp) ?_
        refine (line_in (some ⟨g, 0, none⟩) m m ys z r1 r2 r3 r4 r5 r6 r7 r8 b1 r10 90 HZ.out R2.out R8.out B1.out HL90.out 90 H90 fb gb hfb90 hgb90 _ (HM3.out.byteRow (.s (.s (.s .z))) HY.out)).mono ?_
        rintro e w3 ⟨rfl, hb⟩
        have HM4 := Lib.hid (HM3.out.call hb)
        refine ⟨_, rfl, HM4.out.forget.forget, ?_⟩
        clear hb HM3
        change wpAnyH _ _ _ _ _ _ _ (Act.put _ (some 50) _) _
        (try simp only [Act.put, List.setIfInBounds_toArray, List.set_cons_zero, List.set_cons_succ])
        refine wpAnyH_all (rs := [8]) (by kernel_rfl) (by simp) ?_
        intro i hi
        obtain rfl := List.mem_singleton.1 hi
        refine wpOp_of rfl rfl ?_
        refine w_lay HM4 rfl rfl rfl .z .z aggG.size (gcells_length _ _) (gcells_length _ _) (gcells_one _ _) rfl ?_
        intro w4 HM5
        refine ⟨HM5.out.forget.forget, ?_⟩
        clear HM4
        refine wpAnyH_all (rs := [9]) (by kernel_rfl) (by simp) ?_
        intro i hi
        obtain rfl := List.mem_singleton.1 hi
        refine wpOp_of rfl rfl ?_
        refine w_lay HM5 rfl rfl rfl (.s .z) (.s .z) aggG.size (gcells_length _ _) (gcells_length _ _) (gcells_one _ _) rfl ?_
        intro w5 HM6
        refine ⟨HM6.out.forget.forget, ?_⟩
        clear HM5
        refine wpAnyH_done (by kernel_rfl) ?_ _
        go_wp2_with fail
        go_meet
        exact ⟨ha, hb, rfl, rfl, (Lib.hid HM6.out.swap2)⟩
  case' rest =>
    clear HM
    obtain ⟨ha, hb, rfl, rfl, HM⟩ := hcut
    go_upto_region 15 with fail
    go_loopw [11] (fun i wr => ∃ j : Nat, 192 ≤ j ∧ j ≤ 256 ∧ i = .int .i64 (j : Int) ∧ Hid (Own w wr ((hb, 29, gcells fb gb) :: (ha, 29, gcells fa ga) :: [(g4, 24, [.int .u8 (z : Int), .int .u8 (r1 : Int), .int .u8 (r2 : Int), .int .u8 (r3 : Int), .int .u8 (r4 : Int), .int .u8 (r5 : Int), .int .u8 (r6 : Int), .int .u8 (r7 : Int), .int .u8 (r8 : Int), .int .u8 (b1 : Int), .int .u8 (r10 : Int)]), (g, 5, b8 m ys), (g3, 39, [.int .u8 (b0 : Int), .int .u8 (b1 : Int)]), (g2, 24, [.int .u8 (z : Int), .int .u8 (r1 : Int), .int .u8 (r2 : Int), .int .u8 (r3 : Int), .int .u8 (r4 : Int), .int .u8 (r5 : Int), .int .u8 (r6 : Int), .int .u8 (r7 : Int), .int .u8 (r8 : Int), .int .u8 (r9 : Int), .int .u8 (r10 : Int)]), (g1, 33, [.slice a1 n1 c1, .slice a2 n2 c2, .int .i64 many, .int .i64 at_])]))) (fun i _ => 256 - (intOf i).toNat)
    case atStart => exact ⟨192, by omega, by omega, rfl, HM⟩
    case round =>
      clear HM
      obtain ⟨j, hj0, hj, rfl, HM⟩ := hrel
      by_cases hlt : j < 256
      · have hlt' : (j : Int) < 256 := by omega
        obtain ⟨v, hv⟩ : ∃ v, Hid (fa j = v) := ⟨_, rfl⟩
        obtain ⟨t, ht⟩ : ∃ t, Hid (ga j = t) := ⟨_, rfl⟩
        have G0 : Hid ((gcells fa ga)[j]? = some (.int .u8 (v : Int))) := Lib.hid (by rw [gcells_color _ _ j hlt, hv.out])
        have G1 : Hid ((gcells fa ga)[256 + j]? = some (.bool t)) := Lib.hid (by rw [gcells_front _ _ j hlt, ht.out])
        have G2 : Hid ((gcells fb gb)[j]? = some (.int .u8 (v : Int))) := Lib.hid (by rw [gcells_color _ _ j hlt, ← hv.out, ← hfb90.out, ← hfa90.out, gColor_right m ys z r2 r8 b1 r9 90 j HZ3.out hj0])
        have G3 : Hid ((gcells fb gb)[256 + j]? = some (.bool t)) := Lib.hid (by rw [gcells_front _ _ j hlt, ← ht.out, ← hgb90.out, ← hga90.out, gFront_right m ys z r2 r8 b1 r9 90 j HZ3.out hj0])
        have HJ0 := Lib.hid hj0
        clear hlt hj hj0 hv ht
        go_upto_region 17 with fail
        (refine own_region HM (by kernel_rfl) (by kernel_rfl) ?_; (try simp only [Act.put, List.setIfInBounds_toArray, List.set_cons_zero, List.set_cons_succ]); repeat ((fail_if_success (with_reducible refine wpQuiet_nil ?_)); first | go_big_quiet_skip | (go_big_quiet_want; first | ((with_reducible apply quiet_get); exact rfl; (first | (with_reducible exact oneU8) | (with_reducible exact oneU16) | (with_reducible exact oneBool)); (first | with_reducible exact .z | with_reducible exact .s .z | with_reducible exact .s (.s .z) | with_reducible exact .s (.s (.s .z)) | with_reducible exact .s (.s (.s (.s .z))) | with_reducible exact .s (.s (.s (.s (.s .z)))) | with_reducible exact .s (.s (.s (.s (.s (.s .z))))) | with_reducible exact HSA.out | with_reducible exact HSB.out | with_reducible exact HSC.out | with_reducible exact HSD.out); (first | exact G0.out | exact G1.out | exact G2.out | exact G3.out); go_big_quiet_op; go_big_quiet_on) | (go_big_quiet_op; go_big_quiet_on) | (go_big_quiet_op; go_big_quiet_on) | (go_big_quiet_op; refine ⟨_, fun _ _ => rfl, ?_⟩; go_big_quiet_on))))
        refine wpQuiet_nil ?_
        intro w' HM'
        clear HM; have HM := HM'; clear HM'
        go_wp2_with fail
        go_roundw
        case rel => exact ⟨j + 1, by have := HJ0.out; omega, by omega, by go_num, HM⟩
        case measure => simp [intOf]; omega
      · obtain rfl : j = 256 := by omega
        go_wp2_with fail
        go_ret
        exact ⟨rfl, Own.fin HM⟩
theorem locks_any (a1 a2 : Option Addr) (n1 c1 n2 c2 : Nat) (many at_ : Int) (xs1 xs2 : Nat → Nat) (r0 r1 r2 r3 r4 r5 r6 r7 r8 r9 r10 b0 b1 : Nat) (r0b : r0 < 256) (r2b : r2 < 256) (r8b : r8 < 256) (r9b : r9 < 256) (b0b : b0 < 256) (b1b : b1 < 256) (w : World) (h1 : ByteRow w a1 n1 xs1) (h2 : ByteRow w a2 n2 xs2) :
    Calls Try.prog 7 #[.agg #[.slice a1 n1 c1, .slice a2 n2 c2, .int .i64 many, .int .i64 at_], regsV r0 r1 r2 r3 r4 r5 r6 r7 r8 r9 r10, .agg #[.int .u8 (b0 : Int), .int .u8 (b1 : Int)]] w fun e w' => e = .returned (.bool true) ∧ Below w.heap.size w w' := by
  by_cases l1 : n1 ≤ 300
  · by_cases l2 : n2 ≤ 300
    · exact locks_in a1 a2 n1 c1 n2 c2 many at_ xs1 xs2 r0 r1 r2 r3 r4 r5 r6 r7 r8 r9 r10 b0 b1 r0b r2b r8b r9b b0b b1b w h1 h2 l1 l2
    · exact locks_o2 a1 a2 n1 c1 n2 c2 many at_ r0 r1 r2 r3 r4 r5 r6 r7 r8 r9 r10 b0 b1 w l1 (by omega)
  · exact locks_o1 a1 a2 n1 c1 n2 c2 many at_ r0 r1 r2 r3 r4 r5 r6 r7 r8 r9 r10 b0 b1 w (by omega)

end Go.Proofs.Ytnkckdlolieojaa
