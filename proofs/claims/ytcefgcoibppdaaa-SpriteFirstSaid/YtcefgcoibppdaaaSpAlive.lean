/-
  The example of the chapter.
-/
import Derived.Test.YtcefgcoibppdaaaSpCode
import Derived.Test.YtcefgcoibppdaaaSpBuild
import Derived.Test.YtcefgcoibppdaaaBuilt
namespace Go.Proofs.Ytcefgcoibppdaaa
open Go.RowKit
theorem blt_5 (w : World) : (Instr.build 26 #[(5, .int .u8 126)]).run Try.prog w = .ok (.agg #[.int .u8 0, .int .u8 0, .int .u8 0, .int .u8 0, .int .u8 0, .int .u8 126, .int .u8 0, .int .u8 0, .int .u8 0, .int .u8 0, .int .u8 0]) w := by kernel_rfl

theorem L_al : spL 16384 (upd (upd (upd (upd (fun _ => 0) 16128 255) 16129 208) 16256 5) 0 128) 0 126 0 = [0] := by decide +kernel
theorem on_al (a : Option Addr) (cap : Nat) (w : World) (hV : ByteRow w a 16384 (upd (upd (upd (upd (fun _ => 0) 16128 255) 16129 208) 16256 5) 0 128)) :
    Calls Try.prog 8 #[.slice a 16384 cap, .agg #[.int .u8 0, .int .u8 0, .int .u8 0, .int .u8 0, .int .u8 0, .int .u8 126, .int .u8 0, .int .u8 0, .int .u8 0, .int .u8 0, .int .u8 0], .int .i64 0] w fun e w' => ∃ p c, e = .returned (.tuple #[.slice p 1 c, .bool false]) ∧ NumRow w' p [0] ∧ Below w.heap.size w w' :=
  on_in a 16384 cap (upd (upd (upd (upd (fun _ => 0) 16128 255) 16129 208) 16256 5) 0 128) 0 0 0 0 0 126 0 0 0 0 0 0 (by decide) (by decide) (by decide) (by decide) [0] L_al w hV
theorem line_al (a : Option Addr) (cap : Nat) (w : World) (hV : ByteRow w a 16384 (upd (upd (upd (upd (fun _ => 0) 16128 255) 16129 208) 16256 5) 0 128)) :
    Calls Try.prog 15 #[.slice a 16384 cap, .agg #[.int .u8 0, .int .u8 0, .int .u8 0, .int .u8 0, .int .u8 0, .int .u8 126, .int .u8 0, .int .u8 0, .int .u8 0, .int .u8 0, .int .u8 0], .int .i64 0] w fun e w' => ∃ f o, e = .returned (rowV f o false) ∧ Hid (f 5 = 17 ∧ f 6 = 0) ∧ Below w.heap.size w w' :=
  (line_in a 16384 cap (upd (upd (upd (upd (fun _ => 0) 16128 255) 16129 208) 16256 5) 0 128) 0 0 0 0 0 126 0 0 0 0 0 0 (by decide) (by decide) (by decide) (by decide) (by decide) (by decide) _ _ false rfl rfl (by show _ = _; decide +kernel) w hV).mono fun _ _ ⟨h1, h2⟩ => ⟨_, _, h1, Lib.hid ⟨by decide +kernel, by decide +kernel⟩, h2⟩
set_option maxRecDepth 100000 in
set_option maxHeartbeats 1600000 in
theorem alive_any (w : World) : Calls Try.prog 9 #[] w fun e w' => e = .returned (.bool true) ∧ Below w.heap.size w w' := by
  have HM := Lib.hid (Own.start w)
  have tg1 : Hid True := trivial
  have tg2 : Hid True := trivial
  have hmk := Lib.hid (made_bytes 16384 (by decide))
  have LX : Hid (∀ i, (upd (upd (upd (upd (fun _ => 0) 16128 255) 16129 208) 16256 5) 0 128) i < 256) := Lib.hid (upd_lt (upd_lt (upd_lt (upd_lt (fun _ => by show 0 < 256; decide) 16128 (by decide)) 16129 (by decide)) 16256 (by decide)) 0 (by decide))
  go_enter Try.func9, Try.ntmps9
  go_upto_region 6 with (first
    | ((with_reducible apply own_makes (cs := b8 16384 (fun _ => 0)) (e := 5) (n := 16384) HM); exact rfl; exact rfl; exact rfl; exact hmk.out; exact rfl; clear HM; intro w' g1 HM)
    | ((with_reducible apply own_b8 (i := 16128) (v := 255) HM); exact rfl; exact rfl; exact rfl; exact oneU8; decide; exact rfl; exact rfl; clear HM; intro w' HM) | ((with_reducible apply own_b8 (i := 16129) (v := 208) HM); exact rfl; exact rfl; exact rfl; exact oneU8; decide; exact rfl; exact rfl; clear HM; intro w' HM) | ((with_reducible apply own_b8 (i := 16256) (v := 5) HM); exact rfl; exact rfl; exact rfl; exact oneU8; decide; exact rfl; exact rfl; clear HM; intro w' HM) | ((with_reducible apply own_b8 (i := 0) (v := 128) HM); exact rfl; exact rfl; exact rfl; exact oneU8; decide; exact rfl; exact rfl; clear HM; intro w' HM))
  clear hmk
  go_upto_region 7 with (first | ((with_reducible apply built_by blt_5); exact rfl; (focus (go_simp; done)); exact rfl; all_goals skip) | (go_at_call 8; (with_reducible refine (on_al _ 16384 _ (HM.out.byteRow (n := 16384) (xs := upd (upd (upd (upd (fun _ => 0) 16128 255) 16129 208) 16256 5) 0 128) .z LX.out)).mono ?_); rintro e w' ⟨p, cp, rfl, HN, hb⟩; have HM' := Lib.hid (HM.out.call hb); clear HM hb; have HM := HM'; clear HM'))
  obtain ⟨gn, on_, rfl, hgn, hcn⟩ := HN (by decide)
  have HC0 := Lib.hid (hcn 0 0 rfl)
  clear hgn hcn HN
  have HV1 := Lib.hid (HM.out.byteRow (n := 16384) (xs := upd (upd (upd (upd (fun _ => 0) 16128 255) 16129 208) 16256 5) 0 128) .z LX.out)
  have HM0 := HM
  clear HM
  have HM := Lib.hid (Own.start w')
  go_upto_region 8 with (first | ((with_reducible apply built_by blt_5); exact rfl; (focus (go_simp; done)); exact rfl; all_goals skip) | (go_at_call 15; (with_reducible refine (line_al _ 16384 _ (HV1.out.under (Own.fin HM))).mono ?_); rintro e w' ⟨fc, oc, rfl, HFG, hb⟩; have HM' := Lib.hid (HM.out.call hb); clear HM hb; have HM := HM'; clear HM') | ((with_reducible apply own_lay HM); exact rfl; exact rfl; exact rfl; (first | with_reducible exact .z | with_reducible exact .s .z | with_reducible exact .s (.s .z) | with_reducible exact .s (.s (.s .z)) | with_reducible exact .s (.s (.s (.s .z))) | with_reducible exact .s (.s (.s (.s (.s .z))))); (first | with_reducible exact .z | with_reducible exact .s .z | with_reducible exact .s (.s .z) | with_reducible exact .s (.s (.s .z)) | with_reducible exact .s (.s (.s (.s .z))) | with_reducible exact .s (.s (.s (.s (.s .z))))); exact aggRow.size; (exact rcells_length _ _ _); (exact rcells_length _ _ _); (exact rcells_one _ _ _); exact rfl; exact rfl; intro w' HM'; clear HM; have HM := HM'; clear HM'; all_goals skip) | ((with_reducible apply own_box HM); exact rfl; (conv => lhs; whnf); exact rfl; exact rfl; (first | (clear tg1; intro w' g1 HM') | (clear tg2; intro w' g2 HM') | (clear tg3; intro w' g3 HM') | (clear tg4; intro w' g4 HM') | intro w' g' HM'); clear HM; have HM := HM'; clear HM'; all_goals skip) | ((with_reducible apply own_alloc HM); exact rfl; (first | (with_reducible exact zeroRow)); exact rfl; (first | (clear tg1; intro w' g1 HM') | (clear tg2; intro w' g2 HM') | (clear tg3; intro w' g3 HM') | (clear tg4; intro w' g4 HM') | intro w' g' HM'); clear HM; have HM := HM'; clear HM'; all_goals skip) | ((with_reducible apply own_cell HM); exact rfl; exact rfl; (first | (with_reducible exact oneInt) | (with_reducible exact oneBool) | (with_reducible exact oneU8) | (with_reducible exact oneBs)); (first | with_reducible exact .z | with_reducible exact .s .z | with_reducible exact .s (.s .z) | with_reducible exact .s (.s (.s .z)) | with_reducible exact .s (.s (.s (.s .z))) | with_reducible exact .s (.s (.s (.s (.s .z))))); (focus repeat' (first | with_reducible exact .z | with_reducible apply Drop.s)); exact rfl; all_goals skip) | ((with_reducible apply own_load HM); exact rfl; exact rfl; (first | (with_reducible exact agg11)); (first | with_reducible exact .z | with_reducible exact .s .z | with_reducible exact .s (.s .z) | with_reducible exact .s (.s (.s .z)) | with_reducible exact .s (.s (.s (.s .z))) | with_reducible exact .s (.s (.s (.s (.s .z))))); (focus repeat' (first | with_reducible exact .z | with_reducible apply Drop.s)); (focus repeat' (first | with_reducible exact .z | with_reducible apply Take.s)); exact rfl; all_goals skip) | ((with_reducible apply own_store HM); exact rfl; exact rfl; (conv => lhs; whnf); exact rfl; (first | with_reducible exact .z | with_reducible exact .s .z | with_reducible exact .s (.s .z) | with_reducible exact .s (.s (.s .z)) | with_reducible exact .s (.s (.s (.s .z))) | with_reducible exact .s (.s (.s (.s (.s .z))))); (focus repeat' (first | with_reducible exact .z | with_reducible apply Over.p | with_reducible apply Over.s)); (first | with_reducible exact .z | with_reducible exact .s .z | with_reducible exact .s (.s .z) | with_reducible exact .s (.s (.s .z)) | with_reducible exact .s (.s (.s (.s .z))) | with_reducible exact .s (.s (.s (.s (.s .z))))); (first | (with_reducible exact (agg11).size) | (with_reducible exact (oneInt).size) | (with_reducible exact (oneBool).size) | (with_reducible exact (oneU8).size) | (with_reducible exact (oneBs).size)); exact rfl; exact rfl; exact rfl; exact rfl; intro w' HM'; clear HM; have HM := HM'; clear HM'; all_goals skip))
  have G0 : Hid ((rcells fc oc false)[5]? = some (.int .u8 17)) := Lib.hid (by rw [rcells_color _ _ _ 5 (by decide), HFG.out.1]; rfl)
  have G1 : Hid ((rcells fc oc false)[6]? = some (.int .u8 0)) := Lib.hid (by rw [rcells_color _ _ _ 6 (by decide), HFG.out.2]; rfl)
  have G2 : Hid ((rcells fc oc false)[257]? = some (.bool false)) := Lib.hid (rcells_meets _ _ _)
  (refine own_inorder HM ?_; (try simp only [Act.put, List.setIfInBounds_toArray, List.set_cons_zero, List.set_cons_succ]); repeat ((fail_if_success (with_reducible refine wpQuiet_nil ?_)); first | go_big_quiet_skip | (go_big_quiet_want; first | ((with_reducible apply quiet_get); exact rfl; (first | (with_reducible exact oneU8) | (with_reducible exact oneU16) | (with_reducible exact oneBool)); (first | with_reducible exact .z | with_reducible exact .s .z | with_reducible exact .s (.s .z) | with_reducible exact .s (.s (.s .z)) | with_reducible exact .s (.s (.s (.s .z))) | with_reducible exact .s (.s (.s (.s (.s .z)))) | with_reducible exact .s (.s (.s (.s (.s (.s .z))))) | with_reducible exact HSA.out | with_reducible exact HSB.out | with_reducible exact HSC.out | with_reducible exact HSD.out); (first | exact G0.out | exact G1.out | exact G2.out); go_big_quiet_op; go_big_quiet_on) | ((with_reducible apply quiet_old); exact rfl; (first | (with_reducible exact oneInt) | (with_reducible exact oneU8) | (with_reducible exact oneBool) | (with_reducible exact oneU16) | (with_reducible exact oneStr)); (first | exact HC0.out); exact rfl; go_big_quiet_op; go_big_quiet_on) | (go_big_quiet_op; go_big_quiet_on) | (go_big_quiet_op; go_big_quiet_on) | (go_big_quiet_op; refine ⟨_, fun _ _ => rfl, ?_⟩; go_big_quiet_on))))
  refine wpQuiet_nil ?_
  intro w' HM'
  clear HM; have HM := HM'; clear HM'
  go_wp2_with fail
  go_ret
  exact ⟨rfl, Own.fin (Lib.hid (HM0.out.call (Own.fin HM)))⟩

end Go.Proofs.Ytcefgcoibppdaaa
