/-
  The law RegsTurn returns true for any registers, kind of change and condition, and writes nothing that was there.
-/
import Derived.Test.YthehpkhhoimecaaDoorRegAlive
import Derived.Test.YthehpkhhoimecaaDoorRegSwap
import Derived.Test.YthehpkhhoimecaaDoorRegRefSwap
import Derived.Test.YthehpkhhoimecaaDoorRegTick
import Derived.Deep.Cut
import Derived.Deep.CutRange
import Derived.Test.YthehpkhhoimecaaDoorRegMet
namespace Go.Proofs.YthehpkhhoimecaaDoor
open Go.RowKit

theorem swap_any (r : Rg) (b : Bool) (s : Rg) (hs : Hid (r.swap b = s)) (w : World) : Calls Tryd.prog 6 #[r.v, .bool b] w fun e w' => e = .returned s.v ∧ Below w.heap.size w w' := by
  rw [← hs.out]; cases b
  · exact swap_false r w
  · exact swap_true r w
theorem rswap_any (r : Rg) (hr : r.Fits) (b : Bool) (s : Rg) (hs : Hid (r.swap b = s)) (w : World) : Calls Tryd.prog 7 #[r.v, .bool b] w fun e w' => e = .returned s.v ∧ Below w.heap.size w w' := by
  rw [← hs.out]; cases b
  · exact rswap_false r hr w
  · exact rswap_true r hr w
theorem met_below (f k : Nat) (c : Int) (hf : f < 256) (hk : Hid (c % 8 = (k : Int))) (b : Bool) (hb : Hid (rgMet f k = b)) (w : World) (hT : Tab w) :
    Calls Tryd.prog 10 #[.int .u8 (f : Int), .int .i64 c] w fun e w' => e = .returned (.bool b) ∧ Below w.heap.size w w' :=
  (met_at f k c hf hk.out b hb w hT).mono fun _ _ ⟨he, hw⟩ => ⟨he, hw ▸ Below.refl _ _⟩
theorem tmod_ways (c : Int) (m : Nat) (hm : 0 < m) : ∃ (T : Int) (k : Nat), c.tmod m = T ∧ c % m = (k : Int) ∧ k < m ∧ ((T < 0 ∧ T + m = (k : Int)) ∨ (¬ T < 0 ∧ T = (k : Int))) := by
  have p1 := Int.emod_nonneg c (show (m : Int) ≠ 0 by omega)
  have p2 := Int.emod_lt_of_pos c (show (0 : Int) < (m : Int) by omega)
  obtain ⟨k, hk⟩ := Int.eq_ofNat_of_zero_le p1
  have h := Int.tmod_eq_emod (a := c) (b := (m : Int))
  refine ⟨_, k, rfl, hk, by omega, ?_⟩
  rw [h, hk]
  split
  · right; omega
  · rename_i hn
    left
    have : ((m : Int)).natAbs = m := by omega
    omega
theorem cond_idx (k : Nat) (hk : k < 8) (w : World) : (Instr.index 27 (.agg #[.string ⟨#[78, 90]⟩, .string ⟨#[90]⟩, .string ⟨#[78, 67]⟩, .string ⟨#[67]⟩, .string ⟨#[80, 79]⟩, .string ⟨#[80, 69]⟩, .string ⟨#[80]⟩, .string ⟨#[77]⟩]) (.int .i64 (k : Int))).run Tryd.prog w = .ok (.string (rgCond k)) w := by
  match k, hk with
  | 0, _ => exact (by kernel_rfl : (Instr.index 27 (.agg #[.string ⟨#[78, 90]⟩, .string ⟨#[90]⟩, .string ⟨#[78, 67]⟩, .string ⟨#[67]⟩, .string ⟨#[80, 79]⟩, .string ⟨#[80, 69]⟩, .string ⟨#[80]⟩, .string ⟨#[77]⟩]) (.int .i64 0)).run Tryd.prog w = .ok (.string ⟨#[78, 90]⟩) w)
  | 1, _ => exact (by kernel_rfl : (Instr.index 27 (.agg #[.string ⟨#[78, 90]⟩, .string ⟨#[90]⟩, .string ⟨#[78, 67]⟩, .string ⟨#[67]⟩, .string ⟨#[80, 79]⟩, .string ⟨#[80, 69]⟩, .string ⟨#[80]⟩, .string ⟨#[77]⟩]) (.int .i64 1)).run Tryd.prog w = .ok (.string ⟨#[90]⟩) w)
  | 2, _ => exact (by kernel_rfl : (Instr.index 27 (.agg #[.string ⟨#[78, 90]⟩, .string ⟨#[90]⟩, .string ⟨#[78, 67]⟩, .string ⟨#[67]⟩, .string ⟨#[80, 79]⟩, .string ⟨#[80, 69]⟩, .string ⟨#[80]⟩, .string ⟨#[77]⟩]) (.int .i64 2)).run Tryd.prog w = .ok (.string ⟨#[78, 67]⟩) w)
  | 3, _ => exact (by kernel_rfl : (Instr.index 27 (.agg #[.string ⟨#[78, 90]⟩, .string ⟨#[90]⟩, .string ⟨#[78, 67]⟩, .string ⟨#[67]⟩, .string ⟨#[80, 79]⟩, .string ⟨#[80, 69]⟩, .string ⟨#[80]⟩, .string ⟨#[77]⟩]) (.int .i64 3)).run Tryd.prog w = .ok (.string ⟨#[67]⟩) w)
  | 4, _ => exact (by kernel_rfl : (Instr.index 27 (.agg #[.string ⟨#[78, 90]⟩, .string ⟨#[90]⟩, .string ⟨#[78, 67]⟩, .string ⟨#[67]⟩, .string ⟨#[80, 79]⟩, .string ⟨#[80, 69]⟩, .string ⟨#[80]⟩, .string ⟨#[77]⟩]) (.int .i64 4)).run Tryd.prog w = .ok (.string ⟨#[80, 79]⟩) w)
  | 5, _ => exact (by kernel_rfl : (Instr.index 27 (.agg #[.string ⟨#[78, 90]⟩, .string ⟨#[90]⟩, .string ⟨#[78, 67]⟩, .string ⟨#[67]⟩, .string ⟨#[80, 79]⟩, .string ⟨#[80, 69]⟩, .string ⟨#[80]⟩, .string ⟨#[77]⟩]) (.int .i64 5)).run Tryd.prog w = .ok (.string ⟨#[80, 69]⟩) w)
  | 6, _ => exact (by kernel_rfl : (Instr.index 27 (.agg #[.string ⟨#[78, 90]⟩, .string ⟨#[90]⟩, .string ⟨#[78, 67]⟩, .string ⟨#[67]⟩, .string ⟨#[80, 79]⟩, .string ⟨#[80, 69]⟩, .string ⟨#[80]⟩, .string ⟨#[77]⟩]) (.int .i64 6)).run Tryd.prog w = .ok (.string ⟨#[80]⟩) w)
  | 7, _ => exact (by kernel_rfl : (Instr.index 27 (.agg #[.string ⟨#[78, 90]⟩, .string ⟨#[90]⟩, .string ⟨#[78, 67]⟩, .string ⟨#[67]⟩, .string ⟨#[80, 79]⟩, .string ⟨#[80, 69]⟩, .string ⟨#[80]⟩, .string ⟨#[77]⟩]) (.int .i64 7)).run Tryd.prog w = .ok (.string ⟨#[77]⟩) w)

set_option maxRecDepth 100000 in
set_option maxHeartbeats 3200000 in
theorem turn_any (r : Rg) (hr : r.Fits) (all : Bool) (c : Int) (w : World) (hT : Tab w) : Calls Tryd.prog 3 #[r.v, .bool all, .int .i64 c] w fun e w' => e = .returned (.bool true) ∧ Below w.heap.size w w' := by
  obtain ⟨T, k, e1, hk, k1, ht⟩ := tmod_ways c 8 (by omega)
  have e1 : c.tmod 8 = T := e1
  have HK : Hid (c % 8 = (k : Int)) := hk
  have HI := Lib.hid (fun w => cond_idx k k1 w)
  have K1 := Lib.hid k1
  obtain ⟨s, hs⟩ : ∃ s, Hid (r.swap all = s) := ⟨_, rfl⟩
  obtain ⟨q, hq⟩ : ∃ q, Hid (r.tick = q) := ⟨_, rfl⟩
  have T1 := Lib.hid (show ∀ w, Calls Tryd.prog 8 #[r.v] w fun e w' => e = .returned q.v ∧ Below w.heap.size w w' by rw [← hq.out]; exact tick_at r hr.r)
  have T2 := Lib.hid (show ∀ w, Calls Tryd.prog 9 #[r.v] w fun e w' => e = .returned q.v ∧ Below w.heap.size w w' by rw [← hq.out]; exact rtick_at r hr.r)
  obtain ⟨b, hb⟩ : ∃ b, Hid (rgMet r.f k = b) := ⟨_, rfl⟩
  have HF : Hid (r.cells[1]? = some (.int .u8 (r.f : Int))) := rfl
  have HR := Lib.hid hr
  have HT := Lib.hid hT
  clear hr hT hk k1 hq
  rcases ht with ⟨t1, t2⟩ | ⟨t1, t2⟩
  · skip
    rw [← (show T + 8 = (k : Int) from t2)] at HI
    have t3 : IntKind.i64.wrap (T + 8) = T + 8 := by rw [IntKind.wrap_i64]; omega
    clear t2
    have HM := Lib.hid (Own.start w)
    have tg1 : Hid True := trivial
    have tg2 : Hid True := trivial
    go_enter Tryd.func3, Tryd.ntmps3
    go_upto_region 7 with (first
      | ((with_reducible apply own_box HM); exact rfl; (conv => lhs; whnf); exact rfl; exact rfl; (first | (clear tg1; intro w' g1 HM') | (clear tg2; intro w' g2 HM') | (clear tg3; intro w' g3 HM') | (clear tg4; intro w' g4 HM') | intro w' g' HM'); clear HM; have HM := HM'; clear HM'; all_goals skip)
      | ((with_reducible apply own_index); exact rfl; exact rfl; exact rfl; exact HI.out; exact rfl; all_goals skip)
      | (go_at_call 5; (with_reducible refine (regsAlive_any _).mono ?_); rintro e w' ⟨rfl, hb⟩; have HM' := Lib.hid (HM.out.call hb); clear HM hb; have HM := HM'; clear HM'))
    have ES := Rg.same s
    have EQ := Rg.same q
    (refine own_region HM (by kernel_rfl) (by kernel_rfl) ?_; (try simp only [Act.put, List.setIfInBounds_toArray, List.set_cons_zero, List.set_cons_succ]); repeat ((fail_if_success (with_reducible refine wpQuiet_nil ?_)); first | go_big_quiet_skip | (go_big_quiet_want; first | ((with_reducible apply quiet_row); exact rfl; exact aggR; (first | with_reducible exact .z | with_reducible exact .s .z | with_reducible exact .s (.s .z) | with_reducible exact .s (.s (.s .z)) | with_reducible exact .s (.s (.s (.s .z))) | with_reducible exact .s (.s (.s (.s (.s .z))))); (first | exact Rg.cells_length _ | exact rfl); go_big_quiet_op; go_big_quiet_on) | ((with_reducible apply quiet_get); exact rfl; (first | (with_reducible exact oneU8) | (with_reducible exact oneU16) | (with_reducible exact oneBool)); (first | with_reducible exact .z | with_reducible exact .s .z | with_reducible exact .s (.s .z) | with_reducible exact .s (.s (.s .z)) | with_reducible exact .s (.s (.s (.s .z))) | with_reducible exact .s (.s (.s (.s (.s .z))))); exact rfl; go_big_quiet_op; go_big_quiet_on) | ((with_reducible apply quiet_load); exact rfl; (with_reducible exact aggAlt); (first | with_reducible exact .z | with_reducible exact .s .z | with_reducible exact .s (.s .z) | with_reducible exact .s (.s (.s .z)) | with_reducible exact .s (.s (.s (.s .z))) | with_reducible exact .s (.s (.s (.s (.s .z))))); exact Rg.altDrop _; exact Rg.altTake _; go_big_quiet_op; go_big_quiet_on) | ((with_reducible apply quiet_call); exact fun w => rfl; (focus (go_simp; all_goals with_reducible rfl)); (intro wq HQ; first | (with_reducible exact swap_any r all s hs _) | (with_reducible exact rswap_any r HR.out all s hs _) | (with_reducible exact T1.out _) | (with_reducible exact T2.out _) | (with_reducible exact met_below r.f k c HR.out.f HK b hb _ (Tab.own HT HQ)) | (with_reducible exact rmet_at r.f k HR.out.f K1.out b hb _)); go_big_quiet_op; go_big_quiet_on) | (go_big_quiet_op; go_big_quiet_on) | (go_big_quiet_op; refine ⟨_, fun _ _ => rfl, ?_⟩; go_big_quiet_on))))
    refine wpQuiet_nil ?_
    intro w' HM'
    clear HM; have HM := HM'; clear HM'
    go_wp2_with fail
    go_ret
    exact ⟨rfl, Own.fin HM⟩
  · skip
    subst t2
    have HM := Lib.hid (Own.start w)
    have tg1 : Hid True := trivial
    have tg2 : Hid True := trivial
    go_enter Tryd.func3, Tryd.ntmps3
    go_upto_region 7 with (first
      | ((with_reducible apply own_box HM); exact rfl; (conv => lhs; whnf); exact rfl; exact rfl; (first | (clear tg1; intro w' g1 HM') | (clear tg2; intro w' g2 HM') | (clear tg3; intro w' g3 HM') | (clear tg4; intro w' g4 HM') | intro w' g' HM'); clear HM; have HM := HM'; clear HM'; all_goals skip)
      | ((with_reducible apply own_index); exact rfl; exact rfl; exact rfl; exact HI.out; exact rfl; all_goals skip)
      | (go_at_call 5; (with_reducible refine (regsAlive_any _).mono ?_); rintro e w' ⟨rfl, hb⟩; have HM' := Lib.hid (HM.out.call hb); clear HM hb; have HM := HM'; clear HM'))
    have ES := Rg.same s
    have EQ := Rg.same q
    (refine own_region HM (by kernel_rfl) (by kernel_rfl) ?_; (try simp only [Act.put, List.setIfInBounds_toArray, List.set_cons_zero, List.set_cons_succ]); repeat ((fail_if_success (with_reducible refine wpQuiet_nil ?_)); first | go_big_quiet_skip | (go_big_quiet_want; first | ((with_reducible apply quiet_row); exact rfl; exact aggR; (first | with_reducible exact .z | with_reducible exact .s .z | with_reducible exact .s (.s .z) | with_reducible exact .s (.s (.s .z)) | with_reducible exact .s (.s (.s (.s .z))) | with_reducible exact .s (.s (.s (.s (.s .z))))); (first | exact Rg.cells_length _ | exact rfl); go_big_quiet_op; go_big_quiet_on) | ((with_reducible apply quiet_get); exact rfl; (first | (with_reducible exact oneU8) | (with_reducible exact oneU16) | (with_reducible exact oneBool)); (first | with_reducible exact .z | with_reducible exact .s .z | with_reducible exact .s (.s .z) | with_reducible exact .s (.s (.s .z)) | with_reducible exact .s (.s (.s (.s .z))) | with_reducible exact .s (.s (.s (.s (.s .z))))); exact rfl; go_big_quiet_op; go_big_quiet_on) | ((with_reducible apply quiet_load); exact rfl; (with_reducible exact aggAlt); (first | with_reducible exact .z | with_reducible exact .s .z | with_reducible exact .s (.s .z) | with_reducible exact .s (.s (.s .z)) | with_reducible exact .s (.s (.s (.s .z))) | with_reducible exact .s (.s (.s (.s (.s .z))))); exact Rg.altDrop _; exact Rg.altTake _; go_big_quiet_op; go_big_quiet_on) | ((with_reducible apply quiet_call); exact fun w => rfl; (focus (go_simp; all_goals with_reducible rfl)); (intro wq HQ; first | (with_reducible exact swap_any r all s hs _) | (with_reducible exact rswap_any r HR.out all s hs _) | (with_reducible exact T1.out _) | (with_reducible exact T2.out _) | (with_reducible exact met_below r.f k c HR.out.f HK b hb _ (Tab.own HT HQ)) | (with_reducible exact rmet_at r.f k HR.out.f K1.out b hb _)); go_big_quiet_op; go_big_quiet_on) | (go_big_quiet_op; go_big_quiet_on) | (go_big_quiet_op; refine ⟨_, fun _ _ => rfl, ?_⟩; go_big_quiet_on))))
    refine wpQuiet_nil ?_
    intro w' HM'
    clear HM; have HM := HM'; clear HM'
    go_wp2_with fail
    go_ret
    exact ⟨rfl, Own.fin HM⟩

end Go.Proofs.YthehpkhhoimecaaDoor
