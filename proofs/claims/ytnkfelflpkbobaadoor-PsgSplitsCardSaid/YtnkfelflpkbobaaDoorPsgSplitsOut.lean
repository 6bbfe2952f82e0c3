/-
  The law PsgSplits returns true where the sound or a number isn't one that it speaks of.
-/
import Derived.Test.YtnkfelflpkbobaaDoorPsgAlive
import Derived.Test.YtnkfelflpkbobaaDoorPsgRight
namespace Go.Proofs.YtnkfelflpkbobaaDoor
open Go.RowKit

set_option maxRecDepth 100000 in
set_option maxHeartbeats 3200000 in
theorem splits_out (S : Snd) (hS : S.Fits) (n0 n1 e ph : Int) (hout : S.right = false ∨ n0 < 0 ∨ n1 < 0 ∨ 2000 < n0 ∨ 2000 < n1 ∨ e < 1 ∨ 100 < e ∨ ph < 0 ∨ 100 < ph) (w : World) (hT : Tab w) :
    Calls Tryd.prog 5 #[.agg S.cells.toArray, .agg #[.int .i64 n0, .int .i64 n1, .int .i64 e, .int .i64 ph]] w fun r w' => r = .returned (.bool true) ∧ Below w.heap.size w w' := by
  have HT := Lib.hid hT
  obtain ⟨B, hB⟩ : ∃ B, B = S.right := ⟨_, rfl⟩
  have HR1 : Hid (∀ w, Calls Tryd.prog 11 #[.agg S.cells.toArray] w fun e w' => e = .returned (.bool B) ∧ Below w.heap.size w w') := by show _; rw [hB]; exact pright_at S hS
  rw [← hB] at hout
  have key : B = false ∨ (B = true ∧ (((n0 < 0) = True) ∨ ((n0 < 0) = False ∧ (n1 < 0) = True) ∨ ((n0 < 0) = False ∧ (n1 < 0) = False ∧ ((2000 : Int) < n0) = True) ∨ ((n0 < 0) = False ∧ (n1 < 0) = False ∧ ((2000 : Int) < n0) = False ∧ ((2000 : Int) < n1) = True) ∨ ((n0 < 0) = False ∧ (n1 < 0) = False ∧ ((2000 : Int) < n0) = False ∧ ((2000 : Int) < n1) = False ∧ (e < 1) = True) ∨ ((n0 < 0) = False ∧ (n1 < 0) = False ∧ ((2000 : Int) < n0) = False ∧ ((2000 : Int) < n1) = False ∧ (e < 1) = False ∧ ((100 : Int) < e) = True) ∨ ((n0 < 0) = False ∧ (n1 < 0) = False ∧ ((2000 : Int) < n0) = False ∧ ((2000 : Int) < n1) = False ∧ (e < 1) = False ∧ ((100 : Int) < e) = False ∧ (ph < 0) = True) ∨ ((n0 < 0) = False ∧ (n1 < 0) = False ∧ ((2000 : Int) < n0) = False ∧ ((2000 : Int) < n1) = False ∧ (e < 1) = False ∧ ((100 : Int) < e) = False ∧ (ph < 0) = False ∧ ((100 : Int) < ph) = True))) := by
    cases B
    · left; rfl
    · right
      refine ⟨rfl, ?_⟩
      simp only [eq_iff_iff, iff_true, iff_false]
      simp only [Bool.true_eq_false, false_or] at hout
      omega
  clear hB hS hT hout
  have HM := Lib.hid (Own.start w)
  have tg1 : Hid True := trivial
  have tg2 : Hid True := trivial
  rcases key with rfl | ⟨rfl, q0 | ⟨q0, q1⟩ | ⟨q0, q1, q2⟩ | ⟨q0, q1, q2, q3⟩ | ⟨q0, q1, q2, q3, q4⟩ | ⟨q0, q1, q2, q3, q4, q5⟩ | ⟨q0, q1, q2, q3, q4, q5, q6⟩ | ⟨q0, q1, q2, q3, q4, q5, q6, q7⟩⟩
  all_goals
    go_enter Tryd.func5, Tryd.ntmps5
    go_wp2_with (first
      | ((with_reducible apply own_box HM); exact rfl; (conv => lhs; whnf); exact rfl; exact rfl; (first | (clear tg1; intro w' g1 HM') | (clear tg2; intro w' g2 HM') | (clear tg3; intro w' g3 HM') | (clear tg4; intro w' g4 HM') | intro w' g' HM'); clear HM; have HM := HM'; clear HM'; all_goals skip) | ((with_reducible apply own_alloc HM); exact rfl; (first | (with_reducible exact zeroS)); exact rfl; (first | (clear tg1; intro w' g1 HM') | (clear tg2; intro w' g2 HM') | (clear tg3; intro w' g3 HM') | (clear tg4; intro w' g4 HM') | intro w' g' HM'); clear HM; have HM := HM'; clear HM'; all_goals skip) | ((with_reducible apply own_cell HM); exact rfl; exact rfl; (first | (with_reducible exact oneInt)); (first | with_reducible exact .z | with_reducible exact .s .z | with_reducible exact .s (.s .z) | with_reducible exact .s (.s (.s .z)) | with_reducible exact .s (.s (.s (.s .z))) | with_reducible exact .s (.s (.s (.s (.s .z))))); (focus repeat' (first | with_reducible exact .z | with_reducible apply Drop.s)); exact rfl; all_goals skip) | ((with_reducible apply own_load HM); exact rfl; exact rfl; (first | (with_reducible exact aggI4)); (first | with_reducible exact .z | with_reducible exact .s .z | with_reducible exact .s (.s .z) | with_reducible exact .s (.s (.s .z)) | with_reducible exact .s (.s (.s (.s .z))) | with_reducible exact .s (.s (.s (.s (.s .z))))); (focus repeat' (first | with_reducible exact .z | with_reducible apply Drop.s)); (focus repeat' (first | with_reducible exact .z | with_reducible apply Take.s)); exact rfl; all_goals skip) | ((with_reducible apply own_store HM); exact rfl; exact rfl; (conv => lhs; whnf); exact rfl; (first | with_reducible exact .z | with_reducible exact .s .z | with_reducible exact .s (.s .z) | with_reducible exact .s (.s (.s .z)) | with_reducible exact .s (.s (.s (.s .z))) | with_reducible exact .s (.s (.s (.s (.s .z))))); (focus repeat' (first | with_reducible exact .z | with_reducible apply Over.p | with_reducible apply Over.s)); (first | with_reducible exact .z | with_reducible exact .s .z | with_reducible exact .s (.s .z) | with_reducible exact .s (.s (.s .z)) | with_reducible exact .s (.s (.s (.s .z))) | with_reducible exact .s (.s (.s (.s (.s .z))))); (first | (with_reducible exact (aggI4).size) | (with_reducible exact (oneInt).size)); exact rfl; exact rfl; exact rfl; exact rfl; intro w' HM'; clear HM; have HM := HM'; clear HM'; all_goals skip)
      | ((with_reducible apply own_row HM); exact rfl; exact rfl; exact aggS; (first | with_reducible exact .z | with_reducible exact .s .z | with_reducible exact .s (.s .z) | with_reducible exact .s (.s (.s .z)) | with_reducible exact .s (.s (.s (.s .z))) | with_reducible exact .s (.s (.s (.s (.s .z))))); exact rfl; exact Snd.cells_length _; all_goals skip)
      | (go_at_call 9; refine (psgAlive_any _ (Tab.own HT HM)).mono ?_; rintro e w' ⟨rfl, hb⟩; have HM' := Lib.hid (HM.out.call hb); clear HM hb; have HM := HM'; clear HM')
      | (go_at_call 11; refine (HR1.out _).mono ?_; rintro e w' ⟨rfl, hb⟩; have HM' := Lib.hid (HM.out.call hb); clear HM hb; have HM := HM'; clear HM'))
    go_ret
    exact ⟨rfl, Own.fin HM⟩

end Go.Proofs.YtnkfelflpkbobaaDoor
