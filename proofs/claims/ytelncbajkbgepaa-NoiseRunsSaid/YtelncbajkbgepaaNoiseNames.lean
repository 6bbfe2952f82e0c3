/-
  The law NoiseNames returns true, and writes nothing that was there.
-/
import Derived.Test.YtelncbajkbgepaaNoiseRight
import Derived.Test.YtelncbajkbgepaaNoisePeriod
import Derived.Laws.StructEq
namespace Go.Proofs.Ytelncbajkbgepaa
open Go.RowKit

theorem noise_eq (d : Nat) (m c : Int) (h : Bool) (x : Int) (m' c' : Int) (h' : Bool) (x' : Int) (w : World) :
    (Op.equalIn (d + 2) 24 (.agg #[.int .u8 m, .int .i64 c, .bool h, .int .u16 x]) (.agg #[.int .u8 m', .int .i64 c', .bool h', .int .u16 x'])).run Try.prog w = .ok (m == m' && (c == c' && (h == h' && x == x'))) w := by
  have e8 (a b : Int) (w : World) : (Op.equalIn (d + 1) 5 (.int .u8 a) (.int .u8 b)).run Try.prog w = .ok (a == b) w := run_equalIn_int w d 5 .u8 .u8 a b Try.underlying5
  have ei (a b : Int) (w : World) : (Op.equalIn (d + 1) 3 (.int .i64 a) (.int .i64 b)).run Try.prog w = .ok (a == b) w := run_equalIn_int w d 3 .i64 .i64 a b Try.underlying3
  have eb (a b : Bool) (w : World) : (Op.equalIn (d + 1) 4 (.bool a) (.bool b)).run Try.prog w = .ok (a == b) w := run_equalIn_bool w d 4 a b Try.underlying4
  have e16 (a b : Int) (w : World) : (Op.equalIn (d + 1) 22 (.int .u16 a) (.int .u16 b)).run Try.prog w = .ok (a == b) w := run_equalIn_int w d 22 .u16 .u16 a b Try.underlying22
  rw [run_equalIn_struct w (d + 1) 24 _ _ Try.underlying24 (by kernel_rfl)]
  by_cases h0 : m = m' <;> by_cases h1 : c = c' <;> by_cases h2 : h = h' <;> by_cases h3 : x = x' <;> simp [go_sem, e8, ei, eb, e16, h0, h1, h2, h3]
theorem noise_same (m c : Int) (h : Bool) (x : Int) (w : World) :
    (Op.equalIn 10000 24 (.agg #[.int .u8 m, .int .i64 c, .bool h, .int .u16 x]) (.agg #[.int .u8 m, .int .i64 c, .bool h, .int .u16 x])).run Try.prog w = .ok true w := by
  have := noise_eq 9998 m c h x m c h x w
  simpa using this

theorem set_lit (w : World) : Calls Try.prog 8 #[.agg #[.int .u8 0, .int .i64 5, .bool true, .int .u16 0], .int .u8 252] w fun e w' =>
      e = .returned (.agg #[.int .u8 4, .int .i64 5, .bool true, .int .u16 32768]) ∧ Below w.heap.size w w' := set_any 0 5 true 0 252 (by omega) (by omega) w

set_option maxHeartbeats 1600000 in
theorem names_any (w : World) : Calls Try.prog 3 #[] w fun e w' => e = .returned (.bool true) ∧ Below w.heap.size w w' := by
  have HM := Lib.hid (Own.start w)
  have hs := noise_same 4 5 true 32768
  go_enter Try.func3, Try.ntmps3
  go_wp2_with (first
    | ((with_reducible apply own_box HM); exact rfl; (conv => lhs; whnf); exact rfl; exact rfl; (first | (clear tg1; intro w' g1 HM') | (clear tg2; intro w' g2 HM') | (clear tg3; intro w' g3 HM') | (clear tg4; intro w' g4 HM') | intro w' g' HM'); clear HM; have HM := HM'; clear HM'; all_goals skip) | ((with_reducible apply own_alloc HM); exact rfl; (first | (with_reducible exact zeroN)); exact rfl; (first | (clear tg1; intro w' g1 HM') | (clear tg2; intro w' g2 HM') | (clear tg3; intro w' g3 HM') | (clear tg4; intro w' g4 HM') | intro w' g' HM'); clear HM; have HM := HM'; clear HM'; all_goals skip) | ((with_reducible apply own_cell HM); exact rfl; exact rfl; (first | (with_reducible exact oneInt) | (with_reducible exact oneBool) | (with_reducible exact oneU8) | (with_reducible exact oneU16)); (first | with_reducible exact .z | with_reducible exact .s .z | with_reducible exact .s (.s .z) | with_reducible exact .s (.s (.s .z)) | with_reducible exact .s (.s (.s (.s .z))) | with_reducible exact .s (.s (.s (.s (.s .z))))); (focus repeat' (first | with_reducible exact .z | with_reducible apply Drop.s)); exact rfl; all_goals skip) | ((with_reducible apply own_load HM); exact rfl; exact rfl; (first | (with_reducible exact aggN)); (first | with_reducible exact .z | with_reducible exact .s .z | with_reducible exact .s (.s .z) | with_reducible exact .s (.s (.s .z)) | with_reducible exact .s (.s (.s (.s .z))) | with_reducible exact .s (.s (.s (.s (.s .z))))); (focus repeat' (first | with_reducible exact .z | with_reducible apply Drop.s)); (focus repeat' (first | with_reducible exact .z | with_reducible apply Take.s)); exact rfl; all_goals skip) | ((with_reducible apply own_store HM); exact rfl; exact rfl; (conv => lhs; whnf); exact rfl; (first | with_reducible exact .z | with_reducible exact .s .z | with_reducible exact .s (.s .z) | with_reducible exact .s (.s (.s .z)) | with_reducible exact .s (.s (.s (.s .z))) | with_reducible exact .s (.s (.s (.s (.s .z))))); (focus repeat' (first | with_reducible exact .z | with_reducible apply Over.p | with_reducible apply Over.s)); (first | with_reducible exact .z | with_reducible exact .s .z | with_reducible exact .s (.s .z) | with_reducible exact .s (.s (.s .z)) | with_reducible exact .s (.s (.s (.s .z))) | with_reducible exact .s (.s (.s (.s (.s .z))))); (first | (with_reducible exact (aggN).size) | (with_reducible exact (oneInt).size) | (with_reducible exact (oneBool).size) | (with_reducible exact (oneU8).size) | (with_reducible exact (oneU16).size)); exact rfl; exact rfl; exact rfl; exact rfl; intro w' HM'; clear HM; have HM := HM'; clear HM'; all_goals skip)
    | (go_at_call 8; refine (set_lit _).mono ?_; rintro e w1 ⟨rfl, hb⟩; have HM' := Lib.hid (HM.out.call hb); clear HM hb; have HM := HM'; clear HM')
    | (go_at_call 9; refine (noiseAlive_any _).mono ?_; rintro e w1 ⟨rfl, rfl⟩)
    | (go_at_call_of 10 (Value.agg #[.int .u8 7, .int .i64 64, .bool false, .int .u16 1]); refine (right_at 7 64 false 1 true (by decide) (by omega) (by omega) _).mono ?_; rintro e w2 ⟨rfl, hb⟩; have HM' := Lib.hid (HM.out.call hb); clear HM hb; have HM := HM'; clear HM')
    | (go_at_call_of 10 (Value.agg #[.int .u8 8, .int .i64 0, .bool false, .int .u16 1]); refine (right_at 8 0 false 1 false (by decide) (by omega) (by omega) _).mono ?_; rintro e w2 ⟨rfl, hb⟩; have HM' := Lib.hid (HM.out.call hb); clear HM hb; have HM := HM'; clear HM')
    | (go_at_call_of 10 (Value.agg #[.int .u8 1, .int .i64 65, .bool false, .int .u16 1]); refine (right_at 1 65 false 1 false (by decide) (by omega) (by omega) _).mono ?_; rintro e w2 ⟨rfl, hb⟩; have HM' := Lib.hid (HM.out.call hb); clear HM hb; have HM := HM'; clear HM')
    | (go_at_call_of 10 (Value.agg #[.int .u8 0, .int .i64 0, .bool false, .int .u16 0]); refine (right_at 0 0 false 0 false (by decide) (by omega) (by omega) _).mono ?_; rintro e w2 ⟨rfl, hb⟩; have HM' := Lib.hid (HM.out.call hb); clear HM hb; have HM := HM'; clear HM')
    | (go_at_call 11; refine (period_none true _).mono ?_; rintro e w2 ⟨rfl, rfl⟩)
    | (go_at_call_of 12 (Value.agg #[.int .u8 0, .int .i64 0, .bool false, .int .u16 3]); refine (out_any 0 0 false 3 (by omega) (by omega) true (by decide) _).mono ?_; rintro e w2 ⟨rfl, hb⟩; have HM' := Lib.hid (HM.out.call hb); clear HM hb; have HM := HM'; clear HM')
    | (go_at_call_of 12 (Value.agg #[.int .u8 0, .int .i64 0, .bool false, .int .u16 2]); refine (out_any 0 0 false 2 (by omega) (by omega) false (by decide) _).mono ?_; rintro e w2 ⟨rfl, hb⟩; have HM' := Lib.hid (HM.out.call hb); clear HM hb; have HM := HM'; clear HM'))
  go_ret
  exact ⟨rfl, Own.fin HM⟩

end Go.Proofs.Ytelncbajkbgepaa
