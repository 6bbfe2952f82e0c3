/-
  The law TurnsDigits returns true for any three bytes, either way, and writes nothing that was there.
-/
import Derived.Test.YtgkfipiefadaaaaTurnNames
import Derived.Test.YtgkfipiefadaaaaTurnRefMore
import Derived.Test.YtgkfipiefadaaaaQuiet
namespace Go.Proofs.Ytgkfipiefadaaaa
open Go.RowKit

theorem aggB : Agg Try.prog 29 3 := ⟨⟨_, Try.underlying29, rfl⟩, by kernel_rfl⟩

set_option maxHeartbeats 1600000 in
theorem diglaw_any (left : Bool) (a m f : Nat) (ha : a < 256) (hm : m < 256) (hf : f < 256) (w : World) :
    Calls Try.prog 6 #[.bool left, .agg #[.int .u8 (a : Int), .int .u8 (m : Int), .int .u8 (f : Int)]] w fun e w' => e = .returned (.bool true) ∧ Below w.heap.size w w' := by
  have HM := Lib.hid (Own.start w)
  obtain ⟨r, hr⟩ : ∃ r, Hid (tDigA left a m = r) := ⟨_, rfl⟩
  obtain ⟨q, hq⟩ : ∃ q, Hid (tDigM left a m = q) := ⟨_, rfl⟩
  obtain ⟨g, hg⟩ : ∃ g, Hid (tDigF left a m f = g) := ⟨_, rfl⟩
  have tg1 : Hid True := trivial
  go_enter Try.func6, Try.ntmps6
  go_wp2_with (first
    | ((with_reducible apply own_box HM); exact rfl; (conv => lhs; whnf); exact rfl; exact rfl; (first | (clear tg1; intro w' g1 HM') | (clear tg2; intro w' g2 HM') | (clear tg3; intro w' g3 HM') | (clear tg4; intro w' g4 HM') | intro w' g' HM'); clear HM; have HM := HM'; clear HM'; all_goals skip) | ((with_reducible apply own_cell HM); exact rfl; exact rfl; (first | (with_reducible exact oneU8)); (first | with_reducible exact .z | with_reducible exact .s .z | with_reducible exact .s (.s .z) | with_reducible exact .s (.s (.s .z)) | with_reducible exact .s (.s (.s (.s .z))) | with_reducible exact .s (.s (.s (.s (.s .z))))); (focus repeat' (first | with_reducible exact .z | with_reducible apply Drop.s)); exact rfl; all_goals skip) | ((with_reducible apply own_load HM); exact rfl; exact rfl; (first | (with_reducible exact aggB)); (first | with_reducible exact .z | with_reducible exact .s .z | with_reducible exact .s (.s .z) | with_reducible exact .s (.s (.s .z)) | with_reducible exact .s (.s (.s (.s .z))) | with_reducible exact .s (.s (.s (.s (.s .z))))); (focus repeat' (first | with_reducible exact .z | with_reducible apply Drop.s)); (focus repeat' (first | with_reducible exact .z | with_reducible apply Take.s)); exact rfl; all_goals skip) | ((with_reducible apply own_store HM); exact rfl; exact rfl; (conv => lhs; whnf); exact rfl; (first | with_reducible exact .z | with_reducible exact .s .z | with_reducible exact .s (.s .z) | with_reducible exact .s (.s (.s .z)) | with_reducible exact .s (.s (.s (.s .z))) | with_reducible exact .s (.s (.s (.s (.s .z))))); (focus repeat' (first | with_reducible exact .z | with_reducible apply Over.p | with_reducible apply Over.s)); (first | with_reducible exact .z | with_reducible exact .s .z | with_reducible exact .s (.s .z) | with_reducible exact .s (.s (.s .z)) | with_reducible exact .s (.s (.s (.s .z))) | with_reducible exact .s (.s (.s (.s (.s .z))))); (first | (with_reducible exact (aggB).size) | (with_reducible exact (oneU8).size)); exact rfl; exact rfl; exact rfl; exact rfl; intro w' HM'; clear HM; have HM := HM'; clear HM'; all_goals skip)
    | (go_at_call 11; refine (turnsAlive_any _).mono ?_; rintro e w' ⟨rfl, rfl⟩)
    | (go_at_call 10; (with_reducible refine (digits_at left a m f r q g ha hm hf hr hq hg _).mono ?_); rintro e w' ⟨rfl, rfl⟩)
    | (go_at_call 19; (with_reducible refine (rdigits_at left a m f r q g ha hm hf hr hq hg _).mono ?_); rintro e w' ⟨rfl, hbl⟩; have HM' := Lib.hid (HM.out.call hbl); clear HM hbl; have HM := HM'; clear HM'))
  go_ret
  exact ⟨rfl, Own.fin HM⟩

end Go.Proofs.Ytgkfipiefadaaaa
