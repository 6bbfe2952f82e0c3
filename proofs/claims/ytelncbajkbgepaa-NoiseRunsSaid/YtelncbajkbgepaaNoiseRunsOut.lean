/-
  The law NoiseRuns returns true for any noise that isn't right and for too many turns, and writes nothing that was there.
-/
import Derived.Test.YtelncbajkbgepaaNoiseNames
import Derived.Test.YtelncbajkbgepaaNoiseRefStep
import Derived.Test.YtelncbajkbgepaaBools
import Derived.RegionTactic
import Derived.RegionCalls
import Derived.Deep.CutRange
namespace Go.Proofs.Ytelncbajkbgepaa
open Go.RowKit

theorem noise_cells {w : World} {g : Nat} {t : TypeId} {m c x : Int} {h : Bool} (H : Whole w g t [.int .u8 m, .int .i64 c, .bool h, .int .u16 x]) :
    w.cell? ⟨g, 0, none⟩ = some (.int .u8 m) ∧ w.cell? ⟨g, 1, none⟩ = some (.int .i64 c) ∧ w.cell? ⟨g, 2, none⟩ = some (.bool h) ∧ w.cell? ⟨g, 3, none⟩ = some (.int .u16 x) := ⟨H.at_ 0, H.at_ 1, H.at_ 2, H.at_ 3⟩

set_option maxRecDepth 100000 in
set_option maxHeartbeats 1600000 in
theorem runs_out (m c : Int) (h : Bool) (x : Int) (m0 : 0 ≤ m) (x0 : 0 ≤ x) (a : Option Addr) (n cap : Nat) (B : Bool) (hB : rightB m c x = B) (hh : B = false ∨ 3000 < n) (w : World) :
    Calls Try.prog 4 #[.agg #[.int .u8 m, .int .i64 c, .bool h, .int .u16 x], .slice a n cap] w fun e w' => e = .returned (.bool true) ∧ Below w.heap.size w w' := by
  have HM := Lib.hid (Own.start w)
  have HR := Lib.hid hB
  clear hB
  rcases (show B = false ∨ (B = true ∧ (3000 : Int) < n) by cases B <;> simp_all; omega) with rfl | ⟨rfl, hs⟩
  all_goals
    clear hh
    have tg1 : Hid True := trivial
    go_enter Try.func4, Try.ntmps4
    go_wp2_with (first
      | ((with_reducible apply own_box HM); exact rfl; (conv => lhs; whnf); exact rfl; exact rfl; (first | (clear tg1; intro w' g1 HM') | (clear tg2; intro w' g2 HM') | (clear tg3; intro w' g3 HM') | (clear tg4; intro w' g4 HM') | intro w' g' HM'); clear HM; have HM := HM'; clear HM'; all_goals skip) | ((with_reducible apply own_alloc HM); exact rfl; (first | (with_reducible exact zeroN)); exact rfl; (first | (clear tg1; intro w' g1 HM') | (clear tg2; intro w' g2 HM') | (clear tg3; intro w' g3 HM') | (clear tg4; intro w' g4 HM') | intro w' g' HM'); clear HM; have HM := HM'; clear HM'; all_goals skip) | ((with_reducible apply own_cell HM); exact rfl; exact rfl; (first | (with_reducible exact oneInt) | (with_reducible exact oneBool) | (with_reducible exact oneU8) | (with_reducible exact oneU16)); (first | with_reducible exact .z | with_reducible exact .s .z | with_reducible exact .s (.s .z) | with_reducible exact .s (.s (.s .z)) | with_reducible exact .s (.s (.s (.s .z))) | with_reducible exact .s (.s (.s (.s (.s .z))))); (focus repeat' (first | with_reducible exact .z | with_reducible apply Drop.s)); exact rfl; all_goals skip) | ((with_reducible apply own_load HM); exact rfl; exact rfl; (first | (with_reducible exact aggN)); (first | with_reducible exact .z | with_reducible exact .s .z | with_reducible exact .s (.s .z) | with_reducible exact .s (.s (.s .z)) | with_reducible exact .s (.s (.s (.s .z))) | with_reducible exact .s (.s (.s (.s (.s .z))))); (focus repeat' (first | with_reducible exact .z | with_reducible apply Drop.s)); (focus repeat' (first | with_reducible exact .z | with_reducible apply Take.s)); exact rfl; all_goals skip) | ((with_reducible apply own_store HM); exact rfl; exact rfl; (conv => lhs; whnf); exact rfl; (first | with_reducible exact .z | with_reducible exact .s .z | with_reducible exact .s (.s .z) | with_reducible exact .s (.s (.s .z)) | with_reducible exact .s (.s (.s (.s .z))) | with_reducible exact .s (.s (.s (.s (.s .z))))); (focus repeat' (first | with_reducible exact .z | with_reducible apply Over.p | with_reducible apply Over.s)); (first | with_reducible exact .z | with_reducible exact .s .z | with_reducible exact .s (.s .z) | with_reducible exact .s (.s (.s .z)) | with_reducible exact .s (.s (.s (.s .z))) | with_reducible exact .s (.s (.s (.s (.s .z))))); (first | (with_reducible exact (aggN).size) | (with_reducible exact (oneInt).size) | (with_reducible exact (oneBool).size) | (with_reducible exact (oneU8).size) | (with_reducible exact (oneU16).size)); exact rfl; exact rfl; exact rfl; exact rfl; intro w' HM'; clear HM; have HM := HM'; clear HM'; all_goals skip)
      | (go_at_call 9; refine (noiseAlive_any _).mono ?_; rintro e w1 ⟨rfl, rfl⟩))
    go_cut [14] from 10 to 14 (fun s14 wx => s14 = .bool false ∧ Hid (Own w wx [(g1, 24, [.int .u8 m, .int .i64 c, .bool h, .int .u16 x])]))
    case' first =>
      have HM' := Lib.hid HM.out.drew
      clear HM
      have HM := HM'
      clear HM'
      obtain ⟨e0, e1, e2, e3⟩ := noise_cells (HM.out.at_ .z)
      go_region_with (first
        | (go_at_call 10; refine (right_at m c h x _ HR.out m0 x0 _).mono ?_; rintro e w2 ⟨rfl, hb⟩; have HM' := Lib.hid (HM.out.call hb); clear HM hb e0 e1 e2 e3; have HM := HM'; clear HM'; obtain ⟨e0, e1, e2, e3⟩ := noise_cells (HM.out.at_ .z))
        | (go_at_call 13; refine (rright_at m c h x _ HR.out m0 x0 _).mono ?_; rintro e w2 ⟨rfl, hb⟩; have HM' := Lib.hid (HM.out.call hb); clear HM hb e0 e1 e2 e3; have HM := HM'; clear HM'; obtain ⟨e0, e1, e2, e3⟩ := noise_cells (HM.out.at_ .z)))
      all_goals (go_wp2_with fail; go_meet; exact ⟨by simp, HM⟩)
    case' rest =>
      clear HM
      obtain ⟨rfl, HM⟩ := hcut
      go_wp2_with (first
        | ((with_reducible apply own_box HM); exact rfl; (conv => lhs; whnf); exact rfl; exact rfl; (first | (clear tg1; intro w' g1 HM') | (clear tg2; intro w' g2 HM') | (clear tg3; intro w' g3 HM') | (clear tg4; intro w' g4 HM') | intro w' g' HM'); clear HM; have HM := HM'; clear HM'; all_goals skip) | ((with_reducible apply own_alloc HM); exact rfl; (first | (with_reducible exact zeroN)); exact rfl; (first | (clear tg1; intro w' g1 HM') | (clear tg2; intro w' g2 HM') | (clear tg3; intro w' g3 HM') | (clear tg4; intro w' g4 HM') | intro w' g' HM'); clear HM; have HM := HM'; clear HM'; all_goals skip) | ((with_reducible apply own_cell HM); exact rfl; exact rfl; (first | (with_reducible exact oneInt) | (with_reducible exact oneBool) | (with_reducible exact oneU8) | (with_reducible exact oneU16)); (first | with_reducible exact .z | with_reducible exact .s .z | with_reducible exact .s (.s .z) | with_reducible exact .s (.s (.s .z)) | with_reducible exact .s (.s (.s (.s .z))) | with_reducible exact .s (.s (.s (.s (.s .z))))); (focus repeat' (first | with_reducible exact .z | with_reducible apply Drop.s)); exact rfl; all_goals skip) | ((with_reducible apply own_load HM); exact rfl; exact rfl; (first | (with_reducible exact aggN)); (first | with_reducible exact .z | with_reducible exact .s .z | with_reducible exact .s (.s .z) | with_reducible exact .s (.s (.s .z)) | with_reducible exact .s (.s (.s (.s .z))) | with_reducible exact .s (.s (.s (.s (.s .z))))); (focus repeat' (first | with_reducible exact .z | with_reducible apply Drop.s)); (focus repeat' (first | with_reducible exact .z | with_reducible apply Take.s)); exact rfl; all_goals skip) | ((with_reducible apply own_store HM); exact rfl; exact rfl; (conv => lhs; whnf); exact rfl; (first | with_reducible exact .z | with_reducible exact .s .z | with_reducible exact .s (.s .z) | with_reducible exact .s (.s (.s .z)) | with_reducible exact .s (.s (.s (.s .z))) | with_reducible exact .s (.s (.s (.s (.s .z))))); (focus repeat' (first | with_reducible exact .z | with_reducible apply Over.p | with_reducible apply Over.s)); (first | with_reducible exact .z | with_reducible exact .s .z | with_reducible exact .s (.s .z) | with_reducible exact .s (.s (.s .z)) | with_reducible exact .s (.s (.s (.s .z))) | with_reducible exact .s (.s (.s (.s (.s .z))))); (first | (with_reducible exact (aggN).size) | (with_reducible exact (oneInt).size) | (with_reducible exact (oneBool).size) | (with_reducible exact (oneU8).size) | (with_reducible exact (oneU16).size)); exact rfl; exact rfl; exact rfl; exact rfl; intro w' HM'; clear HM; have HM := HM'; clear HM'; all_goals skip)
        | (go_at_call 13; refine (rright_at m c h x _ HR.out m0 x0 _).mono ?_; rintro e w2 ⟨rfl, hb⟩; have HM' := Lib.hid (HM.out.call hb); clear HM hb; have HM := HM'; clear HM'))
      go_ret
      exact ⟨rfl, Own.fin HM⟩

end Go.Proofs.Ytelncbajkbgepaa
