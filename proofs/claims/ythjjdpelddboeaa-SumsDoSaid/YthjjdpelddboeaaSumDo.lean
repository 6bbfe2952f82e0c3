/-
  The law SumsDo returns true for any op, and any three bytes, and writes nothing that was there.
-/
import Derived.Test.YthjjdpelddboeaaSumNames
import Derived.Test.YthjjdpelddboeaaSumCode3
import Derived.Test.YthjjdpelddboeaaSumRefDo
import Derived.Test.YthjjdpelddboeaaQuiet
namespace Go.Proofs.Ythjjdpelddboeaa
open Go.RowKit

theorem aggB : Agg Try.prog 34 3 := ⟨⟨_, Try.underlying34, rfl⟩, by kernel_rfl⟩
theorem compare_bl (a b g : Nat) (ha : a < 256) (hb : b < 256) (hg : Hid (nCmp a b = g)) (w : World) :
    Calls Try.prog 14 #[.int .u8 (a : Int), .int .u8 (b : Int)] w fun e w' => e = .returned (.int .u8 (g : Int)) ∧ Below w.heap.size w w' :=
  (compare_at a b g ha hb hg w).mono fun _ _ ⟨he, h⟩ => ⟨he, by subst h; exact Below.refl _ _⟩

theorem rlogic4 (a b v g : Nat) (ha : a < 256) (hb : b < 256) (hv : Hid (a &&& b = v)) (hg : Hid (nBitsF v true = g)) (w : World) :
    Calls Try.prog 25 #[.int .i64 4, .int .u8 (a : Int), .int .u8 (b : Int)] w fun e w' => e = .returned (.tuple #[.int .u8 (v : Int), .int .u8 (g : Int)]) ∧ Below w.heap.size w w' := rlogic_to 4 a b v g ha hb w (.inl ⟨rfl, hv.out, hg.out⟩)
theorem rlogic5 (a b v g : Nat) (ha : a < 256) (hb : b < 256) (hv : Hid (a ^^^ b = v)) (hg : Hid (nBitsF v false = g)) (w : World) :
    Calls Try.prog 25 #[.int .i64 5, .int .u8 (a : Int), .int .u8 (b : Int)] w fun e w' => e = .returned (.tuple #[.int .u8 (v : Int), .int .u8 (g : Int)]) ∧ Below w.heap.size w w' := rlogic_to 5 a b v g ha hb w (.inr (.inl ⟨rfl, hv.out, hg.out⟩))
theorem rlogic6 (a b v g : Nat) (ha : a < 256) (hb : b < 256) (hv : Hid (a ||| b = v)) (hg : Hid (nBitsF v false = g)) (w : World) :
    Calls Try.prog 25 #[.int .i64 6, .int .u8 (a : Int), .int .u8 (b : Int)] w fun e w' => e = .returned (.tuple #[.int .u8 (v : Int), .int .u8 (g : Int)]) ∧ Below w.heap.size w w' := rlogic_to 6 a b v g ha hb w (.inr (.inr ⟨rfl, hv.out, hg.out⟩))

set_option maxRecDepth 100000 in
set_option maxHeartbeats 1600000 in
theorem dolaw_any (op : Int) (k a b f : Nat) (hk : op % 8 = (k : Int)) (ha : a < 256) (hb : b < 256) (hf : f < 256) (w : World) :
    Calls Try.prog 5 #[.int .i64 op, .agg #[.int .u8 (a : Int), .int .u8 (b : Int), .int .u8 (f : Int)]] w fun e w' => e = .returned (.bool true) ∧ Below w.heap.size w w' := by
  have HM := Lib.hid (Own.start w)
  obtain ⟨p, hp⟩ : ∃ p, Hid (nDoV k a b f = p) := ⟨_, rfl⟩
  obtain ⟨q, hq⟩ : ∃ q, Hid (nDoF k a b f = q) := ⟨_, rfl⟩
  obtain ⟨x, hx⟩ : ∃ x, Hid (a &&& b = x) := ⟨_, rfl⟩
  obtain ⟨h, hh⟩ : ∃ h, Hid (nBitsF x true = h) := ⟨_, rfl⟩
  obtain ⟨y, hy⟩ : ∃ y, Hid (a ^^^ b = y) := ⟨_, rfl⟩
  obtain ⟨i, hi⟩ : ∃ i, Hid (nBitsF y false = i) := ⟨_, rfl⟩
  obtain ⟨z, hz⟩ : ∃ z, Hid (a ||| b = z) := ⟨_, rfl⟩
  obtain ⟨j, hj⟩ : ∃ j, Hid (nBitsF z false = j) := ⟨_, rfl⟩
  obtain ⟨m, hm⟩ : ∃ m, Hid (nCmp a b = m) := ⟨_, rfl⟩
  have hk2 := Lib.hid hk
  have tg1 : Hid True := trivial
  clear hk
  go_enter Try.func5, Try.ntmps5
  go_wp2_with (first
    | ((with_reducible apply own_box HM); exact rfl; (conv => lhs; whnf); exact rfl; exact rfl; (first | (clear tg1; intro w' g1 HM') | (clear tg2; intro w' g2 HM') | (clear tg3; intro w' g3 HM') | (clear tg4; intro w' g4 HM') | intro w' g' HM'); clear HM; have HM := HM'; clear HM'; all_goals skip) | ((with_reducible apply own_cell HM); exact rfl; exact rfl; (first | (with_reducible exact oneU8)); (first | with_reducible exact .z | with_reducible exact .s .z | with_reducible exact .s (.s .z) | with_reducible exact .s (.s (.s .z)) | with_reducible exact .s (.s (.s (.s .z))) | with_reducible exact .s (.s (.s (.s (.s .z))))); (focus repeat' (first | with_reducible exact .z | with_reducible apply Drop.s)); exact rfl; all_goals skip) | ((with_reducible apply own_load HM); exact rfl; exact rfl; (first | (with_reducible exact aggB)); (first | with_reducible exact .z | with_reducible exact .s .z | with_reducible exact .s (.s .z) | with_reducible exact .s (.s (.s .z)) | with_reducible exact .s (.s (.s (.s .z))) | with_reducible exact .s (.s (.s (.s (.s .z))))); (focus repeat' (first | with_reducible exact .z | with_reducible apply Drop.s)); (focus repeat' (first | with_reducible exact .z | with_reducible apply Take.s)); exact rfl; all_goals skip) | ((with_reducible apply own_store HM); exact rfl; exact rfl; (conv => lhs; whnf); exact rfl; (first | with_reducible exact .z | with_reducible exact .s .z | with_reducible exact .s (.s .z) | with_reducible exact .s (.s (.s .z)) | with_reducible exact .s (.s (.s (.s .z))) | with_reducible exact .s (.s (.s (.s (.s .z))))); (focus repeat' (first | with_reducible exact .z | with_reducible apply Over.p | with_reducible apply Over.s)); (first | with_reducible exact .z | with_reducible exact .s .z | with_reducible exact .s (.s .z) | with_reducible exact .s (.s (.s .z)) | with_reducible exact .s (.s (.s (.s .z))) | with_reducible exact .s (.s (.s (.s (.s .z))))); (first | (with_reducible exact (aggB).size) | (with_reducible exact (oneU8).size)); exact rfl; exact rfl; exact rfl; exact rfl; intro w' HM'; clear HM; have HM := HM'; clear HM'; all_goals skip)
    | (go_at_call 13; refine (sumsAlive_any _).mono ?_; rintro e w' ⟨rfl, rfl⟩)
    | (go_at_call 23; refine (do_at op k a b f p q hk2.out ha hb hf hp hq _).mono ?_; rintro e w' ⟨rfl, rfl⟩)
    | (go_at_call 24; refine (rdo_at op k a b f p q hk2.out ha hb hf hp hq _).mono ?_; rintro e w' ⟨rfl, hbl⟩; have HM' := Lib.hid (HM.out.call hbl); clear HM hbl; have HM := HM'; clear HM')
    | (go_at_call 12; refine (and_at a b x h ha hb hx hh _).mono ?_; rintro e w' ⟨rfl, rfl⟩)
    | (go_at_call 26; refine (xor_at a b y i ha hb hy hi _).mono ?_; rintro e w' ⟨rfl, rfl⟩)
    | (go_at_call 27; refine (or_at a b z j ha hb hz hj _).mono ?_; rintro e w' ⟨rfl, rfl⟩)
    | (go_at_call 25; first | ((with_reducible refine (rlogic4 a b x h ha hb hx hh _).mono ?_); rintro e w' ⟨rfl, hbl⟩; have HM' := Lib.hid (HM.out.call hbl); clear HM hbl; have HM := HM'; clear HM') | ((with_reducible refine (rlogic5 a b y i ha hb hy hi _).mono ?_); rintro e w' ⟨rfl, hbl⟩; have HM' := Lib.hid (HM.out.call hbl); clear HM hbl; have HM := HM'; clear HM') | ((with_reducible refine (rlogic6 a b z j ha hb hz hj _).mono ?_); rintro e w' ⟨rfl, hbl⟩; have HM' := Lib.hid (HM.out.call hbl); clear HM hbl; have HM := HM'; clear HM')))
  (refine own_region HM (by kernel_rfl) (by kernel_rfl) ?_; (try simp only [Act.put, List.setIfInBounds_toArray, List.set_cons_zero, List.set_cons_succ]); repeat ((fail_if_success (with_reducible refine wpQuiet_nil ?_)); first | go_big_quiet_skip | (go_big_quiet_want; first | ((with_reducible apply quiet_cell); exact rfl; (first | (with_reducible exact oneU8)); (first | with_reducible exact .z | with_reducible exact .s .z | with_reducible exact .s (.s .z) | with_reducible exact .s (.s (.s .z)) | with_reducible exact .s (.s (.s (.s .z))) | with_reducible exact .s (.s (.s (.s (.s .z))))); (focus repeat' (first | with_reducible exact .z | with_reducible apply Drop.s)); go_big_quiet_op; go_big_quiet_on) | ((with_reducible apply quiet_call); exact fun w => rfl; (focus (go_simp; all_goals with_reducible rfl)); (intro wq HQ; first | exact compare_bl a b m ha hb hm _ | exact rcompare_at a b m ha hb hm _); go_big_quiet_op; go_big_quiet_on) | (go_big_quiet_op; go_big_quiet_on) | (go_big_quiet_op; refine ⟨_, fun _ _ => rfl, ?_⟩; go_big_quiet_on))))
  refine wpQuiet_nil ?_
  intro w' HM'
  clear HM
  have HM := HM'
  clear HM'
  go_wp2
  go_ret
  exact ⟨rfl, Own.fin HM⟩

end Go.Proofs.Ythjjdpelddboeaa
