/-
  The law PsgNames returns true, and writes nothing that was there.
-/
import Derived.Test.YtnkfelflpkbobaaDoorPsgAlive
import Derived.Test.YtnkfelflpkbobaaDoorPsgRight
import Derived.Test.YtnkfelflpkbobaaDoorQuiet
namespace Go.Proofs.YtnkfelflpkbobaaDoor
open Go.RowKit

def sndW : Snd := { snd0 with l := 8 }
def sndL : Snd := ⟨⟨0, 0, true⟩, ⟨0, 0, true⟩, ⟨0, 0, true⟩, ⟨0, 0, false, 1⟩, 0, 0, 0, 0, 0⟩
theorem right0 : snd0.right = true := by decide
theorem rightW : sndW.right = false := by decide
theorem sampleL : sndL.sample = 32764 := by decide
theorem sample0 : snd0.sample = 0 := by decide
theorem vol255 : Hid (volOf 255 = 0) := by show _ = _; decide
theorem volume_q (q : Int) (h0 : 0 ≤ q) (h1 : q < 256) (V : Int) (hV : Hid (volOf q = V)) (w : World) (hT : Tab w) :
    Calls Tryd.prog 13 #[.int .u8 q] w fun e w' => e = .returned (.int .i64 V) ∧ Below w.heap.size w w' :=
  (volume_at q h0 h1 V hV w hT).mono fun _ _ ⟨he, hw⟩ => ⟨he, hw ▸ Below.refl _ _⟩
theorem rnew_lit (w : World) : Calls Tryd.prog 10 #[] w fun e w' => e = .returned (.agg #[.int .i64 0, .int .i64 0, .bool false, .int .i64 0, .int .i64 0, .bool false, .int .i64 0, .int .i64 0, .bool false, .int .u8 0, .int .i64 0, .bool false, .int .u16 32768, .int .u8 15, .int .u8 15, .int .u8 15, .int .u8 15, .int .u8 0]) ∧ Below w.heap.size w w' := rnew_any w
theorem right_lit0 (w : World) : Calls Tryd.prog 11 #[.agg #[.int .i64 0, .int .i64 0, .bool false, .int .i64 0, .int .i64 0, .bool false, .int .i64 0, .int .i64 0, .bool false, .int .u8 0, .int .i64 0, .bool false, .int .u16 32768, .int .u8 15, .int .u8 15, .int .u8 15, .int .u8 15, .int .u8 0]] w fun e w' => e = .returned (.bool true) ∧ Below w.heap.size w w' := by
  have h := pright_at snd0 snd0_good.fits w
  rw [right0] at h; exact h
theorem right_litW (w : World) : Calls Tryd.prog 11 #[.agg #[.int .i64 0, .int .i64 0, .bool false, .int .i64 0, .int .i64 0, .bool false, .int .i64 0, .int .i64 0, .bool false, .int .u8 0, .int .i64 0, .bool false, .int .u16 32768, .int .u8 15, .int .u8 15, .int .u8 15, .int .u8 15, .int .u8 8]] w fun e w' => e = .returned (.bool false) ∧ Below w.heap.size w w' := by
  have h := pright_at sndW (by constructor <;> decide) w
  rw [rightW] at h; exact h
theorem sample_litL (w : World) (hT : Tab w) : Calls Tryd.prog 12 #[.agg #[.int .i64 0, .int .i64 0, .bool true, .int .i64 0, .int .i64 0, .bool true, .int .i64 0, .int .i64 0, .bool true, .int .u8 0, .int .i64 0, .bool false, .int .u16 1, .int .u8 0, .int .u8 0, .int .u8 0, .int .u8 0, .int .u8 0]] w fun e w' => e = .returned (.int .i64 32764) ∧ Below w.heap.size w w' := by
  have h := sample_at sndL (by constructor <;> decide) w hT
  rw [sampleL] at h; exact h
theorem sample_lit0 (w : World) (hT : Tab w) : Calls Tryd.prog 12 #[.agg #[.int .i64 0, .int .i64 0, .bool false, .int .i64 0, .int .i64 0, .bool false, .int .i64 0, .int .i64 0, .bool false, .int .u8 0, .int .i64 0, .bool false, .int .u16 32768, .int .u8 15, .int .u8 15, .int .u8 15, .int .u8 15, .int .u8 0]] w fun e w' => e = .returned (.int .i64 0) ∧ Below w.heap.size w w' := by
  have h := sample_at snd0 snd0_good.fits w hT
  rw [sample0] at h; exact h

set_option maxRecDepth 100000 in
set_option maxHeartbeats 1600000 in
theorem names_any (w : World) (hT : Tab w) : Calls Tryd.prog 3 #[] w fun e w' => e = .returned (.bool true) ∧ Below w.heap.size w w' := by
  have HM := Lib.hid (Own.start w)
  have HT := Lib.hid hT
  clear hT
  have tg1 : Hid True := trivial
  have tg2 : Hid True := trivial
  have tg3 : Hid True := trivial
  go_enter Tryd.func3, Tryd.ntmps3
  go_wp2_with (first
    | ((with_reducible apply own_box HM); exact rfl; (conv => lhs; whnf); exact rfl; exact rfl; (first | (clear tg1; intro w' g1 HM') | (clear tg2; intro w' g2 HM') | (clear tg3; intro w' g3 HM') | (clear tg4; intro w' g4 HM') | intro w' g' HM'); clear HM; have HM := HM'; clear HM'; all_goals skip) | ((with_reducible apply own_alloc HM); exact rfl; (first | (with_reducible exact zeroS)); exact rfl; (first | (clear tg1; intro w' g1 HM') | (clear tg2; intro w' g2 HM') | (clear tg3; intro w' g3 HM') | (clear tg4; intro w' g4 HM') | intro w' g' HM'); clear HM; have HM := HM'; clear HM'; all_goals skip) | ((with_reducible apply own_cell HM); exact rfl; exact rfl; (first | (with_reducible exact oneInt) | (with_reducible exact oneBool) | (with_reducible exact oneU8) | (with_reducible exact oneU16)); (first | with_reducible exact .z | with_reducible exact .s .z | with_reducible exact .s (.s .z) | with_reducible exact .s (.s (.s .z)) | with_reducible exact .s (.s (.s (.s .z))) | with_reducible exact .s (.s (.s (.s (.s .z))))); (focus repeat' (first | with_reducible exact .z | with_reducible apply Drop.s)); exact rfl; all_goals skip) | ((with_reducible apply own_load HM); exact rfl; exact rfl; (first | (with_reducible exact aggS) | (with_reducible exact aggT3) | (with_reducible exact aggT) | (with_reducible exact aggQ) | (with_reducible exact aggN)); (first | with_reducible exact .z | with_reducible exact .s .z | with_reducible exact .s (.s .z) | with_reducible exact .s (.s (.s .z)) | with_reducible exact .s (.s (.s (.s .z))) | with_reducible exact .s (.s (.s (.s (.s .z))))); (focus repeat' (first | with_reducible exact .z | with_reducible apply Drop.s)); (focus repeat' (first | with_reducible exact .z | with_reducible apply Take.s)); exact rfl; all_goals skip) | ((with_reducible apply own_store HM); exact rfl; exact rfl; (conv => lhs; whnf); exact rfl; (first | with_reducible exact .z | with_reducible exact .s .z | with_reducible exact .s (.s .z) | with_reducible exact .s (.s (.s .z)) | with_reducible exact .s (.s (.s (.s .z))) | with_reducible exact .s (.s (.s (.s (.s .z))))); (focus repeat' (first | with_reducible exact .z | with_reducible apply Over.p | with_reducible apply Over.s)); (first | with_reducible exact .z | with_reducible exact .s .z | with_reducible exact .s (.s .z) | with_reducible exact .s (.s (.s .z)) | with_reducible exact .s (.s (.s (.s .z))) | with_reducible exact .s (.s (.s (.s (.s .z))))); (first | (with_reducible exact (aggS).size) | (with_reducible exact (aggT3).size) | (with_reducible exact (aggT).size) | (with_reducible exact (aggQ).size) | (with_reducible exact (aggN).size) | (with_reducible exact (oneInt).size) | (with_reducible exact (oneBool).size) | (with_reducible exact (oneU8).size) | (with_reducible exact (oneU16).size)); exact rfl; exact rfl; exact rfl; exact rfl; intro w' HM'; clear HM; have HM := HM'; clear HM'; all_goals skip)
    | (go_at_call 8; refine (new_lit _).mono ?_; rintro e w' ⟨rfl, hb⟩; have HM' := Lib.hid (HM.out.call hb); clear HM hb; have HM := HM'; clear HM'))
  have E4 := sound_same 0 0 false 0 0 false 0 0 false 0 0 false 32768 15 15 15 15 0
  (refine own_region HM (by kernel_rfl) (by kernel_rfl) ?_; (try simp only [Act.put, List.setIfInBounds_toArray, List.set_cons_zero, List.set_cons_succ]); repeat ((fail_if_success (with_reducible refine wpQuiet_nil ?_)); first | ((with_reducible refine own_q_skip rfl ?_); (try simp only [Act.put, List.setIfInBounds_toArray, List.set_cons_zero, List.set_cons_succ])) | ((with_reducible apply own_q_load); exact rfl; exact rfl; (first | (with_reducible exact aggS) | (with_reducible exact aggT3) | (with_reducible exact aggT) | (with_reducible exact aggQ) | (with_reducible exact aggN)); (first | with_reducible exact .z | with_reducible exact .s .z | with_reducible exact .s (.s .z) | with_reducible exact .s (.s (.s .z)) | with_reducible exact .s (.s (.s (.s .z))) | with_reducible exact .s (.s (.s (.s (.s .z))))); (focus repeat' (first | with_reducible exact .z | with_reducible apply Drop.s)); (focus repeat' (first | with_reducible exact .z | with_reducible apply Take.s)); exact rfl; (try simp only [Act.put, List.setIfInBounds_toArray, List.set_cons_zero, List.set_cons_succ])) | ((with_reducible apply own_q_cell); exact rfl; exact rfl; (first | (with_reducible exact oneInt) | (with_reducible exact oneBool) | (with_reducible exact oneU8) | (with_reducible exact oneU16)); (first | with_reducible exact .z | with_reducible exact .s .z | with_reducible exact .s (.s .z) | with_reducible exact .s (.s (.s .z)) | with_reducible exact .s (.s (.s (.s .z))) | with_reducible exact .s (.s (.s (.s (.s .z))))); (focus repeat' (first | with_reducible exact .z | with_reducible apply Drop.s)); exact rfl; (try simp only [Act.put, List.setIfInBounds_toArray, List.set_cons_zero, List.set_cons_succ])) | ((with_reducible apply own_q_call); exact rfl; exact fun w => rfl; (focus (go_simp; all_goals with_reducible rfl)); (intro wq HQ; first | exact psgAlive_any _ (Tab.own HT HQ) | exact rnew_lit _ | (go_at_call_of 11 (Value.agg #[.int .i64 0, .int .i64 0, .bool false, .int .i64 0, .int .i64 0, .bool false, .int .i64 0, .int .i64 0, .bool false, .int .u8 0, .int .i64 0, .bool false, .int .u16 32768, .int .u8 15, .int .u8 15, .int .u8 15, .int .u8 15, .int .u8 0]); exact right_lit0 _) | (go_at_call_of 11 (Value.agg #[.int .i64 0, .int .i64 0, .bool false, .int .i64 0, .int .i64 0, .bool false, .int .i64 0, .int .i64 0, .bool false, .int .u8 0, .int .i64 0, .bool false, .int .u16 32768, .int .u8 15, .int .u8 15, .int .u8 15, .int .u8 15, .int .u8 8]); exact right_litW _) | (go_at_call_of 12 (Value.agg #[.int .i64 0, .int .i64 0, .bool true, .int .i64 0, .int .i64 0, .bool true, .int .i64 0, .int .i64 0, .bool true, .int .u8 0, .int .i64 0, .bool false, .int .u16 1, .int .u8 0, .int .u8 0, .int .u8 0, .int .u8 0, .int .u8 0]); exact sample_litL _ (Tab.own HT HQ)) | (go_at_call_of 12 (Value.agg #[.int .i64 0, .int .i64 0, .bool false, .int .i64 0, .int .i64 0, .bool false, .int .i64 0, .int .i64 0, .bool false, .int .u8 0, .int .i64 0, .bool false, .int .u16 32768, .int .u8 15, .int .u8 15, .int .u8 15, .int .u8 15, .int .u8 0]); exact sample_lit0 _ (Tab.own HT HQ)) | exact volume_q 255 (by decide) (by decide) 0 vol255 _ (Tab.own HT HQ)); (try simp only [Act.put, List.setIfInBounds_toArray, List.set_cons_zero, List.set_cons_succ])) | ((with_reducible apply own_q); exact rfl; (focus (intro w hC; go_simp; all_goals with_reducible rfl)); (try simp only [Act.put, List.setIfInBounds_toArray, List.set_cons_zero, List.set_cons_succ]))))
  refine wpQuiet_nil ?_
  intro w' HM'
  clear HM
  have HM := HM'
  clear HM'
  go_wp2_with fail
  go_ret
  exact ⟨rfl, Own.fin HM⟩

end Go.Proofs.YtnkfelflpkbobaaDoor
