/-
  The law TurnsBit returns true for any bit's number and any three bytes, and writes nothing that was there.
-/
import Derived.Test.YtgkfipiefadaaaaTurnDigits
import Derived.Test.YtgkfipiefadaaaaTurnRefBit
import Derived.Test.YtgkfipiefadaaaaTurnRefPut
namespace Go.Proofs.Ytgkfipiefadaaaa
open Go.RowKit

theorem bit_bl (n : Int) (k v f b g : Nat) (hk : n % 8 = (k : Int)) (hv : v < 256) (hf : f < 256) (hb : b < 256) (hg : Hid (tBitF k v f b = g)) (w : World) :
    Calls Try.prog 12 #[.int .i64 n, .int .u8 (v : Int), .int .u8 (f : Int), .int .u8 (b : Int)] w fun e w' => e = .returned (.int .u8 (g : Int)) ∧ Below w.heap.size w w' :=
  (bit_at n k v f b g hk hv hf hb hg w).mono fun _ _ ⟨he, h⟩ => ⟨he, by subst h; exact Below.refl _ _⟩
theorem put_bl (n : Int) (k v r : Nat) (on : Bool) (hk : n % 8 = (k : Int)) (hv : v < 256) (hr : Hid (tPut k v on = r)) (w : World) :
    Calls Try.prog 17 #[.int .i64 n, .int .u8 (v : Int), .bool on] w fun e w' => e = .returned (.int .u8 (r : Int)) ∧ Below w.heap.size w w' :=
  (put_at n k v r on hk hv hr w).mono fun _ _ ⟨he, h⟩ => ⟨he, by subst h; exact Below.refl _ _⟩
theorem rput_bl (n : Int) (k v r : Nat) (on : Bool) (hk : n % 8 = (k : Int)) (hv : v < 256) (hr : Hid (tPut k v on = r)) (w : World) :
    Calls Try.prog 18 #[.int .i64 n, .int .u8 (v : Int), .bool on] w fun e w' => e = .returned (.int .u8 (r : Int)) ∧ Below w.heap.size w w' :=
  (rput_at n k v r on hk hv hr w).mono fun _ _ ⟨he, h⟩ => ⟨he, by subst h; exact Below.refl _ _⟩

set_option maxRecDepth 100000 in
set_option maxHeartbeats 1600000 in
theorem bitlaw_any (n : Int) (k v f b : Nat) (on : Bool) (hk : n % 8 = (k : Int)) (hv : v < 256) (hf : f < 256) (hb : b < 256) (w : World) :
    Calls Try.prog 5 #[.int .i64 n, .agg #[.int .u8 (v : Int), .int .u8 (f : Int), .int .u8 (b : Int)], .bool on] w fun e w' => e = .returned (.bool true) ∧ Below w.heap.size w w' := by
  have HM := Lib.hid (Own.start w)
  obtain ⟨g, hg⟩ : ∃ g, Hid (tBitF k v f b = g) := ⟨_, rfl⟩
  obtain ⟨r, hr⟩ : ∃ r, Hid (tPut k v on = r) := ⟨_, rfl⟩
  have HK := Lib.hid hk
  have tg1 : Hid True := trivial
  clear hk
  go_enter Try.func5, Try.ntmps5
  go_wp2_with (first
    | ((with_reducible apply own_box HM); exact rfl; (conv => lhs; whnf); exact rfl; exact rfl; (first | (clear tg1; intro w' g1 HM') | (clear tg2; intro w' g2 HM') | (clear tg3; intro w' g3 HM') | (clear tg4; intro w' g4 HM') | intro w' g' HM'); clear HM; have HM := HM'; clear HM'; all_goals skip) | ((with_reducible apply own_cell HM); exact rfl; exact rfl; (first | (with_reducible exact oneU8)); (first | with_reducible exact .z | with_reducible exact .s .z | with_reducible exact .s (.s .z) | with_reducible exact .s (.s (.s .z)) | with_reducible exact .s (.s (.s (.s .z))) | with_reducible exact .s (.s (.s (.s (.s .z))))); (focus repeat' (first | with_reducible exact .z | with_reducible apply Drop.s)); exact rfl; all_goals skip) | ((with_reducible apply own_load HM); exact rfl; exact rfl; (first | (with_reducible exact aggB)); (first | with_reducible exact .z | with_reducible exact .s .z | with_reducible exact .s (.s .z) | with_reducible exact .s (.s (.s .z)) | with_reducible exact .s (.s (.s (.s .z))) | with_reducible exact .s (.s (.s (.s (.s .z))))); (focus repeat' (first | with_reducible exact .z | with_reducible apply Drop.s)); (focus repeat' (first | with_reducible exact .z | with_reducible apply Take.s)); exact rfl; all_goals skip) | ((with_reducible apply own_store HM); exact rfl; exact rfl; (conv => lhs; whnf); exact rfl; (first | with_reducible exact .z | with_reducible exact .s .z | with_reducible exact .s (.s .z) | with_reducible exact .s (.s (.s .z)) | with_reducible exact .s (.s (.s (.s .z))) | with_reducible exact .s (.s (.s (.s (.s .z))))); (focus repeat' (first | with_reducible exact .z | with_reducible apply Over.p | with_reducible apply Over.s)); (first | with_reducible exact .z | with_reducible exact .s .z | with_reducible exact .s (.s .z) | with_reducible exact .s (.s (.s .z)) | with_reducible exact .s (.s (.s (.s .z))) | with_reducible exact .s (.s (.s (.s (.s .z))))); (first | (with_reducible exact (aggB).size) | (with_reducible exact (oneU8).size)); exact rfl; exact rfl; exact rfl; exact rfl; intro w' HM'; clear HM; have HM := HM'; clear HM'; all_goals skip)
    | (go_at_call 11; refine (turnsAlive_any _).mono ?_; rintro e w' ⟨rfl, rfl⟩))
  (refine own_region HM (by kernel_rfl) (by kernel_rfl) ?_; (try simp only [Act.put, List.setIfInBounds_toArray, List.set_cons_zero, List.set_cons_succ]); repeat ((fail_if_success (with_reducible refine wpQuiet_nil ?_)); first | go_big_quiet_skip | (go_big_quiet_want; first | ((with_reducible apply quiet_cell); exact rfl; (first | (with_reducible exact oneU8)); (first | with_reducible exact .z | with_reducible exact .s .z | with_reducible exact .s (.s .z) | with_reducible exact .s (.s (.s .z)) | with_reducible exact .s (.s (.s (.s .z))) | with_reducible exact .s (.s (.s (.s (.s .z))))); (focus repeat' (first | with_reducible exact .z | with_reducible apply Drop.s)); go_big_quiet_op; go_big_quiet_on) | ((with_reducible apply quiet_call); exact fun w => rfl; (focus (go_simp; all_goals with_reducible rfl)); (intro wq HQ; first | exact bit_bl n k v f b g HK.out hv hf hb hg _ | exact rbit_at n k v f b g HK.out hv hf hb hg _ | exact put_bl n k v r on HK.out hv hr _ | exact rput_bl n k v r on HK.out hv hr _); go_big_quiet_op; go_big_quiet_on) | (go_big_quiet_op; go_big_quiet_on) | (go_big_quiet_op; refine ⟨_, fun _ _ => rfl, ?_⟩; go_big_quiet_on))))
  refine wpQuiet_nil ?_
  intro w' HM'
  clear HM
  have HM := HM'
  clear HM'
  go_wp2
  go_ret
  exact ⟨rfl, Own.fin HM⟩

end Go.Proofs.Ytgkfipiefadaaaa
