/-
  The example of the chapter.
-/
import Derived.Test.YtnkckdlolieojaaBaCode
import Derived.Test.YtnkckdlolieojaaBaBuild
import Derived.Test.YtnkckdlolieojaaBaGround
import Derived.Test.YtnkckdlolieojaaBuilt
import Derived.Laws.StructEq
namespace Go.Proofs.Ytnkckdlolieojaa
open Go.RowKit
theorem src_a (w : World) : Calls Try.prog 8 #[.agg #[.int .u8 0, .int .u8 0, .int .u8 0, .int .u8 0, .int .u8 0, .int .u8 0, .int .u8 0, .int .u8 0, .int .u8 1, .int .u8 0, .int .u8 0], .int .i64 5, .int .i64 0] w fun e w' => e = .returned (.tuple #[.int .i64 255, .int .i64 5]) ∧ Below w.heap.size w w' :=
  source_in 0 0 0 0 0 0 0 0 1 0 0 5 0 (by decide) (by decide) (by decide) (by decide) (by decide) 255 5 5 0 rfl rfl rfl rfl w
theorem blt_a (w : World) : (Instr.build 24 #[(8, .int .u8 1)]).run Try.prog w = .ok (.agg #[.int .u8 0, .int .u8 0, .int .u8 0, .int .u8 0, .int .u8 0, .int .u8 0, .int .u8 0, .int .u8 0, .int .u8 1, .int .u8 0, .int .u8 0]) w := by kernel_rfl
theorem blt_b (w : World) : (Instr.build 24 #[(2, .int .u8 14)]).run Try.prog w = .ok (.agg #[.int .u8 0, .int .u8 0, .int .u8 14, .int .u8 0, .int .u8 0, .int .u8 0, .int .u8 0, .int .u8 0, .int .u8 0, .int .u8 0, .int .u8 0]) w := by kernel_rfl

theorem gcells_one (f : Nat → Nat) (g : Nat → Bool) : (gcells f g).all (·.oneCell') = true := by
  rw [List.all_eq_true]
  intro v hv
  unfold gcells at hv
  rcases List.mem_append.1 hv with h | h
  · obtain ⟨x, _, rfl⟩ := List.mem_map.1 h; rfl
  · obtain ⟨x, _, rfl⟩ := List.mem_map.1 h; rfl
theorem line_al (a : Option Addr) (cap : Nat) (w : World) (hV : ByteRow w a 64 (fun i => if i < 64 then 255 else 0)) :
    Calls Try.prog 10 #[.slice a 64 cap, .agg #[.int .u8 0, .int .u8 0, .int .u8 14, .int .u8 0, .int .u8 0, .int .u8 0, .int .u8 0, .int .u8 0, .int .u8 0, .int .u8 0, .int .u8 0], .int .i64 0] w fun e w' => ∃ f g, e = .returned (gV f g) ∧ Hid (f 0 = 15 ∧ f 255 = 15 ∧ g 0 = false) ∧ Below w.heap.size w w' :=
  (line_in a 64 cap (fun i => if i < 64 then 255 else 0) 0 0 14 0 0 0 0 0 0 0 0 0 (by decide) (by decide) (by decide) (by decide) (by decide) 0 rfl _ _ rfl rfl w hV).mono fun _ _ ⟨h1, h2⟩ => ⟨_, _, h1, Lib.hid ⟨by decide, by decide, by decide⟩, h2⟩
theorem upd_al (j : Nat) : upd (fun i => if i < j then 255 else 0) j 255 = fun i => if i < j + 1 then 255 else 0 := by
  funext i
  unfold upd
  by_cases h1 : i = j
  · subst h1; simp
  · by_cases h2 : i < j
    · rw [if_neg h1]; show (if i < j then 255 else 0) = _; rw [if_pos h2, if_pos (by omega)]
    · rw [if_neg h1]; show (if i < j then 255 else 0) = _; rw [if_neg h2, if_neg (by omega)]
set_option maxRecDepth 100000 in
set_option maxHeartbeats 1600000 in
theorem alive_any (w : World) : Calls Try.prog 9 #[] w fun e w' => e = .returned (.bool true) ∧ Below w.heap.size w w' := by
  have HM := Lib.hid (Own.start w)
  have tg1 : Hid True := trivial
  have tg2 : Hid True := trivial
  have hmk := Lib.hid (made_bytes 64 (by decide))
  go_enter Try.func9, Try.ntmps9
  go_upto_region 4 with (first
    | ((with_reducible apply built_by blt_a); exact rfl; (focus (go_simp; done)); exact rfl; all_goals skip) | (go_at_call 8; (with_reducible refine (src_a _).mono ?_); rintro e w' ⟨rfl, hb⟩; have HM' := Lib.hid (HM.out.call hb); clear HM hb; have HM := HM'; clear HM')
    | ((with_reducible apply own_makes (cs := b8 64 (fun _ => 0)) (e := 5) (n := 64) HM); exact rfl; exact rfl; exact rfl; exact hmk.out; exact rfl; clear HM; clear tg1; intro w' g1 HM))
  clear hmk
  go_loopw [14] (fun i wr => ∃ j : Nat, j ≤ 64 ∧ i = .int .i64 (j : Int) ∧ Hid (Own w wr [(g1, 5, b8 64 (fun i => if i < j then 255 else 0))])) (fun i _ => 64 - (intOf i).toNat)
  case atStart => exact ⟨0, by omega, rfl, HM⟩
  case round =>
    clear HM
    obtain ⟨j, hj, rfl, HM⟩ := hrel
    by_cases hlt : j < 64
    · have hlt' : (j : Int) < 64 := by omega
      go_wp2_with (first | ((with_reducible apply own_b8 (v := 255) HM); exact rfl; exact rfl; exact rfl; exact oneU8; exact hlt; exact rfl; exact rfl; clear HM; intro w' HM))
      go_roundw
      case rel => exact ⟨j + 1, by omega, by go_num, by rw [upd_al] at HM; exact HM⟩
      case measure => simp [intOf]; omega
    · obtain rfl : j = 64 := by omega
      have LX : Hid (∀ i, (fun i => if i < 64 then 255 else 0) i < 256) := Lib.hid fun i => by show (if i < 64 then 255 else 0) < 256; split <;> decide
      go_upto_region 9 with (first | ((with_reducible apply built_by blt_b); exact rfl; (focus (go_simp; done)); exact rfl; all_goals skip) | (go_at_call 10; (with_reducible refine (line_al _ 64 _ (HM.out.byteRow (n := 64) (xs := fun i => if i < 64 then 255 else 0) .z LX.out)).mono ?_); rintro e w' ⟨fc, gc, rfl, HFG, hb⟩; have HM' := Lib.hid (HM.out.call hb); clear HM hb; have HM := HM'; clear HM') | ((with_reducible apply own_lay HM); exact rfl; exact rfl; exact rfl; (first | with_reducible exact .z | with_reducible exact .s .z | with_reducible exact .s (.s .z) | with_reducible exact .s (.s (.s .z)) | with_reducible exact .s (.s (.s (.s .z))) | with_reducible exact .s (.s (.s (.s (.s .z))))); (first | with_reducible exact .z | with_reducible exact .s .z | with_reducible exact .s (.s .z) | with_reducible exact .s (.s (.s .z)) | with_reducible exact .s (.s (.s (.s .z))) | with_reducible exact .s (.s (.s (.s (.s .z))))); exact aggG.size; (exact gcells_length _ _); (exact gcells_length _ _); (exact gcells_one _ _); exact rfl; exact rfl; intro w' HM'; clear HM; have HM := HM'; clear HM'; all_goals skip) | ((with_reducible apply own_box HM); exact rfl; (conv => lhs; whnf); exact rfl; exact rfl; (first | (clear tg1; intro w' g1 HM') | (clear tg2; intro w' g2 HM') | (clear tg3; intro w' g3 HM') | (clear tg4; intro w' g4 HM') | intro w' g' HM'); clear HM; have HM := HM'; clear HM'; all_goals skip) | ((with_reducible apply own_alloc HM); exact rfl; (first | (with_reducible exact zeroG)); exact rfl; (first | (clear tg1; intro w' g1 HM') | (clear tg2; intro w' g2 HM') | (clear tg3; intro w' g3 HM') | (clear tg4; intro w' g4 HM') | intro w' g' HM'); clear HM; have HM := HM'; clear HM'; all_goals skip) | ((with_reducible apply own_cell HM); exact rfl; exact rfl; (first | (with_reducible exact oneInt) | (with_reducible exact oneBool) | (with_reducible exact oneU8) | (with_reducible exact oneBs)); (first | with_reducible exact .z | with_reducible exact .s .z | with_reducible exact .s (.s .z) | with_reducible exact .s (.s (.s .z)) | with_reducible exact .s (.s (.s (.s .z))) | with_reducible exact .s (.s (.s (.s (.s .z))))); (focus repeat' (first | with_reducible exact .z | with_reducible apply Drop.s)); exact rfl; all_goals skip) | ((with_reducible apply own_load HM); exact rfl; exact rfl; (first | (with_reducible exact aggI) | (with_reducible exact agg11)); (first | with_reducible exact .z | with_reducible exact .s .z | with_reducible exact .s (.s .z) | with_reducible exact .s (.s (.s .z)) | with_reducible exact .s (.s (.s (.s .z))) | with_reducible exact .s (.s (.s (.s (.s .z))))); (focus repeat' (first | with_reducible exact .z | with_reducible apply Drop.s)); (focus repeat' (first | with_reducible exact .z | with_reducible apply Take.s)); exact rfl; all_goals skip) | ((with_reducible apply own_store HM); exact rfl; exact rfl; (conv => lhs; whnf); exact rfl; (first | with_reducible exact .z | with_reducible exact .s .z | with_reducible exact .s (.s .z) | with_reducible exact .s (.s (.s .z)) | with_reducible exact .s (.s (.s (.s .z))) | with_reducible exact .s (.s (.s (.s (.s .z))))); (focus repeat' (first | with_reducible exact .z | with_reducible apply Over.p | with_reducible apply Over.s)); (first | with_reducible exact .z | with_reducible exact .s .z | with_reducible exact .s (.s .z) | with_reducible exact .s (.s (.s .z)) | with_reducible exact .s (.s (.s (.s .z))) | with_reducible exact .s (.s (.s (.s (.s .z))))); (first | (with_reducible exact (aggI).size) | (with_reducible exact (agg11).size) | (with_reducible exact (oneInt).size) | (with_reducible exact (oneBool).size) | (with_reducible exact (oneU8).size) | (with_reducible exact (oneBs).size)); exact rfl; exact rfl; exact rfl; exact rfl; intro w' HM'; clear HM; have HM := HM'; clear HM'; all_goals skip))
      have F0 : (gcells fc gc)[0]? = some (.int .u8 15) := by rw [gcells_color _ _ 0 (by decide), HFG.out.1]; rfl
      have F1 : (gcells fc gc)[255]? = some (.int .u8 15) := by rw [gcells_color _ _ 255 (by decide), HFG.out.2.1]; rfl
      have F2 : (gcells fc gc)[256]? = some (.bool false) := (gcells_front _ _ 0 (by decide)).trans (by rw [HFG.out.2.2])
      have G0 := Lib.hid F0
      have G1 := Lib.hid F1
      have G2 := Lib.hid F2
      clear F0 F1 F2
      (refine own_inorder HM ?_; (try simp only [Act.put, List.setIfInBounds_toArray, List.set_cons_zero, List.set_cons_succ]); repeat ((fail_if_success (with_reducible refine wpQuiet_nil ?_)); first | go_big_quiet_skip | (go_big_quiet_want; first | ((with_reducible apply quiet_get); exact rfl; (first | (with_reducible exact oneU8) | (with_reducible exact oneU16) | (with_reducible exact oneBool)); (first | with_reducible exact .z | with_reducible exact .s .z | with_reducible exact .s (.s .z) | with_reducible exact .s (.s (.s .z)) | with_reducible exact .s (.s (.s (.s .z))) | with_reducible exact .s (.s (.s (.s (.s .z)))) | with_reducible exact .s (.s (.s (.s (.s (.s .z))))) | with_reducible exact HSA.out | with_reducible exact HSB.out | with_reducible exact HSC.out | with_reducible exact HSD.out); (first | exact G0.out | exact G1.out | exact G2.out); go_big_quiet_op; go_big_quiet_on) | (go_big_quiet_op; go_big_quiet_on) | (go_big_quiet_op; go_big_quiet_on) | (go_big_quiet_op; refine ⟨_, fun _ _ => rfl, ?_⟩; go_big_quiet_on))))
      refine wpQuiet_nil ?_
      intro w' HM'
      clear HM; have HM := HM'; clear HM'
      go_wp2_with fail
      go_ret
      exact ⟨rfl, Own.fin HM⟩

end Go.Proofs.Ytnkckdlolieojaa
