/-
  The laws RepeatLoads, RepeatSeeks and RepeatPorts return true for any bytes, and write nothing that was there.
-/
import Derived.Test.YthfkeiidkmkkoaaRepNames
import Derived.Test.YthfkeiidkmkkoaaRepRef
namespace Go.Proofs.Ythfkeiidkmkkoaa
open Go.RowKit

theorem aggB : Agg Try.prog 28 3 := ⟨⟨_, Try.underlying28, rfl⟩, by kernel_rfl⟩

set_option maxRecDepth 100000 in
set_option maxHeartbeats 1600000 in
theorem loads_any (a v f left : Nat) (ha : a < 256) (hv : v < 256) (hf : f < 256) (w : World) :
    Calls Try.prog 4 #[.agg #[.int .u8 (a : Int), .int .u8 (v : Int), .int .u8 (f : Int)], .int .u16 (left : Int)] w fun e w' => e = .returned (.bool true) ∧ Below w.heap.size w w' := by
  have HM := Lib.hid (Own.start w)
  obtain ⟨p, hp⟩ : ∃ p : Bool, Hid ((p = true) ↔ left ≠ 0) := ⟨decide (left ≠ 0), Lib.hid (by simp)⟩
  obtain ⟨r, hr⟩ : ∃ r, Hid (rLoad a v f p = r) := ⟨_, rfl⟩
  have tg1 : Hid True := trivial
  go_enter Try.func4, Try.ntmps4
  go_wp2_with (first
    | ((with_reducible apply own_box HM); exact rfl; (conv => lhs; whnf); exact rfl; exact rfl; (first | (clear tg1; intro w' g1 HM') | (clear tg2; intro w' g2 HM') | (clear tg3; intro w' g3 HM') | (clear tg4; intro w' g4 HM') | intro w' g' HM'); clear HM; have HM := HM'; clear HM'; all_goals skip) | ((with_reducible apply own_cell HM); exact rfl; exact rfl; (first | (with_reducible exact oneU8)); (first | with_reducible exact .z | with_reducible exact .s .z | with_reducible exact .s (.s .z) | with_reducible exact .s (.s (.s .z)) | with_reducible exact .s (.s (.s (.s .z))) | with_reducible exact .s (.s (.s (.s (.s .z))))); (focus repeat' (first | with_reducible exact .z | with_reducible apply Drop.s)); exact rfl; all_goals skip) | ((with_reducible apply own_load HM); exact rfl; exact rfl; (first | (with_reducible exact aggB)); (first | with_reducible exact .z | with_reducible exact .s .z | with_reducible exact .s (.s .z) | with_reducible exact .s (.s (.s .z)) | with_reducible exact .s (.s (.s (.s .z))) | with_reducible exact .s (.s (.s (.s (.s .z))))); (focus repeat' (first | with_reducible exact .z | with_reducible apply Drop.s)); (focus repeat' (first | with_reducible exact .z | with_reducible apply Take.s)); exact rfl; all_goals skip) | ((with_reducible apply own_store HM); exact rfl; exact rfl; (conv => lhs; whnf); exact rfl; (first | with_reducible exact .z | with_reducible exact .s .z | with_reducible exact .s (.s .z) | with_reducible exact .s (.s (.s .z)) | with_reducible exact .s (.s (.s (.s .z))) | with_reducible exact .s (.s (.s (.s (.s .z))))); (focus repeat' (first | with_reducible exact .z | with_reducible apply Over.p | with_reducible apply Over.s)); (first | with_reducible exact .z | with_reducible exact .s .z | with_reducible exact .s (.s .z) | with_reducible exact .s (.s (.s .z)) | with_reducible exact .s (.s (.s (.s .z))) | with_reducible exact .s (.s (.s (.s (.s .z))))); (first | (with_reducible exact (aggB).size) | (with_reducible exact (oneU8).size)); exact rfl; exact rfl; exact rfl; exact rfl; intro w' HM'; clear HM; have HM := HM'; clear HM'; all_goals skip))
  (refine own_region HM (by kernel_rfl) (by kernel_rfl) ?_; (try simp only [Act.put, List.setIfInBounds_toArray, List.set_cons_zero, List.set_cons_succ]); repeat ((fail_if_success (with_reducible refine wpQuiet_nil ?_)); first | go_big_quiet_skip | (go_big_quiet_want; first | ((with_reducible apply quiet_cell); exact rfl; (first | (with_reducible exact oneU8)); (first | with_reducible exact .z | with_reducible exact .s .z | with_reducible exact .s (.s .z) | with_reducible exact .s (.s (.s .z)) | with_reducible exact .s (.s (.s (.s .z))) | with_reducible exact .s (.s (.s (.s (.s .z))))); (focus repeat' (first | with_reducible exact .z | with_reducible apply Drop.s)); go_big_quiet_op; go_big_quiet_on) | ((with_reducible apply quiet_call); exact fun w => rfl; (focus (go_simp; all_goals with_reducible rfl)); (intro wq HQ; first | exact repeatAlive_bl _ | exact load_bl a v f left r p hf hp hr _ | exact rload_at a v f left r p hf ha hv hp hr _); go_big_quiet_op; go_big_quiet_on) | (go_big_quiet_op; go_big_quiet_on) | (go_big_quiet_op; refine ⟨_, fun _ _ => rfl, ?_⟩; go_big_quiet_on))))
  refine wpQuiet_nil ?_
  intro w' HM'
  clear HM
  have HM := HM'
  clear HM'
  go_wp2
  go_ret
  exact ⟨rfl, Own.fin HM⟩

set_option maxRecDepth 100000 in
set_option maxHeartbeats 1600000 in
theorem ports_any (v m b : Nat) (hv : v < 256) (hm : m < 256) (hb : b < 256) (w : World) :
    Calls Try.prog 6 #[.int .u8 (v : Int), .int .u8 (m : Int), .int .u8 (b : Int)] w fun e w' => e = .returned (.bool true) ∧ Below w.heap.size w w' := by
  have HM := Lib.hid (Own.start w)
  obtain ⟨r, hr⟩ : ∃ r, Hid (rPort v m b = r) := ⟨_, rfl⟩
  go_enter Try.func6, Try.ntmps6
  go_wp2_with (first
    | (go_at_call 10; refine (repeatAlive_any _).mono ?_; rintro e w' ⟨rfl, rfl⟩)
    | (go_at_call 11; (with_reducible refine (port_at v m b r hv hm hb hr _).mono ?_); rintro e w' ⟨rfl, rfl⟩)
    | (go_at_call 15; (with_reducible refine (rport_at v m b r hv hm hb hr _).mono ?_); rintro e w' ⟨rfl, hbl⟩; have HM' := Lib.hid (HM.out.call hbl); clear HM hbl; have HM := HM'; clear HM'))
  go_ret
  exact ⟨rfl, Own.fin HM⟩

set_option maxRecDepth 100000 in
set_option maxHeartbeats 1600000 in
theorem seeks_any (a v f left : Nat) (ha : a < 256) (hv : v < 256) (hf : f < 256) (w : World) :
    Calls Try.prog 5 #[.agg #[.int .u8 (a : Int), .int .u8 (v : Int), .int .u8 (f : Int)], .int .u16 (left : Int)] w fun e w' => e = .returned (.bool true) ∧ Below w.heap.size w w' := by
  have HM := Lib.hid (Own.start w)
  obtain ⟨p, hp⟩ : ∃ p : Bool, Hid ((p = true) ↔ left ≠ 0) := ⟨decide (left ≠ 0), Lib.hid (by simp)⟩
  obtain ⟨r, hr⟩ : ∃ r, Hid (rSeekF a v f p = r) := ⟨_, rfl⟩
  obtain ⟨o, ho⟩ : ∃ o, Hid (rSeekOn a v p = o) := ⟨_, rfl⟩
  have tg1 : Hid True := trivial
  go_enter Try.func5, Try.ntmps5
  go_wp2_with (first
    | ((with_reducible apply own_box HM); exact rfl; (conv => lhs; whnf); exact rfl; exact rfl; (first | (clear tg1; intro w' g1 HM') | (clear tg2; intro w' g2 HM') | (clear tg3; intro w' g3 HM') | (clear tg4; intro w' g4 HM') | intro w' g' HM'); clear HM; have HM := HM'; clear HM'; all_goals skip) | ((with_reducible apply own_cell HM); exact rfl; exact rfl; (first | (with_reducible exact oneU8)); (first | with_reducible exact .z | with_reducible exact .s .z | with_reducible exact .s (.s .z) | with_reducible exact .s (.s (.s .z)) | with_reducible exact .s (.s (.s (.s .z))) | with_reducible exact .s (.s (.s (.s (.s .z))))); (focus repeat' (first | with_reducible exact .z | with_reducible apply Drop.s)); exact rfl; all_goals skip) | ((with_reducible apply own_load HM); exact rfl; exact rfl; (first | (with_reducible exact aggB)); (first | with_reducible exact .z | with_reducible exact .s .z | with_reducible exact .s (.s .z) | with_reducible exact .s (.s (.s .z)) | with_reducible exact .s (.s (.s (.s .z))) | with_reducible exact .s (.s (.s (.s (.s .z))))); (focus repeat' (first | with_reducible exact .z | with_reducible apply Drop.s)); (focus repeat' (first | with_reducible exact .z | with_reducible apply Take.s)); exact rfl; all_goals skip) | ((with_reducible apply own_store HM); exact rfl; exact rfl; (conv => lhs; whnf); exact rfl; (first | with_reducible exact .z | with_reducible exact .s .z | with_reducible exact .s (.s .z) | with_reducible exact .s (.s (.s .z)) | with_reducible exact .s (.s (.s (.s .z))) | with_reducible exact .s (.s (.s (.s (.s .z))))); (focus repeat' (first | with_reducible exact .z | with_reducible apply Over.p | with_reducible apply Over.s)); (first | with_reducible exact .z | with_reducible exact .s .z | with_reducible exact .s (.s .z) | with_reducible exact .s (.s (.s .z)) | with_reducible exact .s (.s (.s (.s .z))) | with_reducible exact .s (.s (.s (.s (.s .z))))); (first | (with_reducible exact (aggB).size) | (with_reducible exact (oneU8).size)); exact rfl; exact rfl; exact rfl; exact rfl; intro w' HM'; clear HM; have HM := HM'; clear HM'; all_goals skip)
    | (go_at_call 10; refine (repeatAlive_any _).mono ?_; rintro e w' ⟨rfl, rfl⟩)
    | (go_at_call 9; (with_reducible refine (seek_at a v f left r p o ha hv hf hp hr ho _).mono ?_); rintro e w' ⟨rfl, rfl⟩)
    | (go_at_call 14; (with_reducible refine (rseek_at a v f left r p o ha hv hf hp hr ho _).mono ?_); rintro e w' ⟨rfl, hbl⟩; have HM' := Lib.hid (HM.out.call hbl); clear HM hbl; have HM := HM'; clear HM'))
  go_ret
  exact ⟨rfl, Own.fin HM⟩

end Go.Proofs.Ythfkeiidkmkkoaa
