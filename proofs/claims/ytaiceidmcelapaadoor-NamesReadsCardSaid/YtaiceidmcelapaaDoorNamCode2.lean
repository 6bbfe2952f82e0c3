/-
  strconv.Itoa in these texts' words; single, loadEither, many, onBits, onBitsAt, rareOne, rare of package names.
-/
import Derived.Test.YtaiceidmcelapaaDoorNamCode1
import Derived.Test.YtaiceidmcelapaaDoorNamShelf
set_option linter.unusedSimpArgs false
set_option linter.unusedVariables false
namespace Go.Proofs.YtaiceidmcelapaaDoor
open Go.RowKit

theorem dec3_eq (n : Nat) (h : n < 1000) : Lib.decDigits n = dec3 n := by
  unfold dec3
  split
  · rename_i h1; exact Lib.decDigits_one h1
  · split
    · rename_i h1 h2; exact Lib.decDigits_two h1 h2
    · rename_i h1 h2
      rw [Lib.decDigits, dif_neg h1, Lib.decDigits_two (by omega) (by omega), Nat.div_div_eq_div_mul]
      rfl
theorem itoa_small (n : Nat) (h : n < 100) (w : World) : Calls Tryd.prog 40 #[.int .i64 (n : Int)] w fun e w' => e = .returned (.string ⟨(dec3 n).toArray⟩) ∧ Below w.heap.size w w' := by
  refine (Tryd.strconv_Itoa_small n h w).mono ?_
  rintro e w' ⟨rfl, rfl⟩
  exact ⟨by rw [dec3_eq n (by omega)], Below.refl _ _⟩
theorem itoa_eight (y : Nat) (h : y < 8) (w : World) : Calls Tryd.prog 40 #[.int .i64 (8 * (y : Int))] w fun e w' => e = .returned (.string ⟨(dec3 (8 * y)).toArray⟩) ∧ Below w.heap.size w w' := by
  have e : (8 * (y : Int)) = ((8 * y : Nat) : Int) := by omega
  rw [e]
  exact itoa_small (8 * y) (by omega) w
theorem pair3 (b : Tx) (hp : b ∈ pairs) : b = [72, 76] ∨ b = [73, 88] ∨ b = [73, 89] := by
  simpa [pairs, pHL, pIX, pIY] using hp
set_option maxRecDepth 100000 in
set_option maxHeartbeats 4000000 in
theorem single_at (n : Nat) (hn : n < 8) (b : Tx) (hp : b ∈ pairs) (w : World) (hTab : Tabs w) : Calls Tryd.prog 38 #[.int .i64 (n : Int), .string ⟨b.toArray⟩] w fun e w' => e = .returned (.string ⟨(cSingle n b).toArray⟩) ∧ Below w.heap.size w w' := by
  have hT : Hid (Tabs w) := hTab
  have c6 := hTab.str (0, t_singles) (by decide) n hn
  obtain rfl | rfl | rfl := pair3 b hp
  all_goals obtain rfl | rfl | rfl | rfl | rfl | rfl | rfl | rfl : n = 0 ∨ n = 1 ∨ n = 2 ∨ n = 3 ∨ n = 4 ∨ n = 5 ∨ n = 6 ∨ n = 7 := by omega
  all_goals clear hTab
  all_goals (
    have HM := Lib.hid (Own.start w)
    have tg1 : Hid True := trivial
    go_enter Tryd.func38, Tryd.ntmps38
    go_wp2_with (first
      | ((with_reducible apply own_box HM); exact rfl; (conv => lhs; whnf); exact rfl; exact rfl; (first | (clear tg1; intro w' g1 HM') | (clear tg2; intro w' g2 HM') | (clear tg3; intro w' g3 HM') | (clear tg4; intro w' g4 HM') | intro w' g' HM'); clear HM; have HM := HM'; clear HM'; all_goals skip) | ((with_reducible apply own_alloc HM); exact rfl; (first | (with_reducible exact zeroP)); exact rfl; (first | (clear tg1; intro w' g1 HM') | (clear tg2; intro w' g2 HM') | (clear tg3; intro w' g3 HM') | (clear tg4; intro w' g4 HM') | intro w' g' HM'); clear HM; have HM := HM'; clear HM'; all_goals skip) | ((with_reducible apply own_cell HM); exact rfl; exact rfl; (first | (with_reducible exact oneInt)); (first | with_reducible exact .z | with_reducible exact .s .z | with_reducible exact .s (.s .z) | with_reducible exact .s (.s (.s .z)) | with_reducible exact .s (.s (.s (.s .z))) | with_reducible exact .s (.s (.s (.s (.s .z))))); (focus repeat' (first | with_reducible exact .z | with_reducible apply Drop.s)); exact rfl; all_goals skip) | ((with_reducible apply own_load HM); exact rfl; exact rfl; (first | (with_reducible exact aggP)); (first | with_reducible exact .z | with_reducible exact .s .z | with_reducible exact .s (.s .z) | with_reducible exact .s (.s (.s .z)) | with_reducible exact .s (.s (.s (.s .z))) | with_reducible exact .s (.s (.s (.s (.s .z))))); (focus repeat' (first | with_reducible exact .z | with_reducible apply Drop.s)); (focus repeat' (first | with_reducible exact .z | with_reducible apply Take.s)); exact rfl; all_goals skip) | ((with_reducible apply own_store HM); exact rfl; exact rfl; (conv => lhs; whnf); exact rfl; (first | with_reducible exact .z | with_reducible exact .s .z | with_reducible exact .s (.s .z) | with_reducible exact .s (.s (.s .z)) | with_reducible exact .s (.s (.s (.s .z))) | with_reducible exact .s (.s (.s (.s (.s .z))))); (focus repeat' (first | with_reducible exact .z | with_reducible apply Over.p | with_reducible apply Over.s)); (first | with_reducible exact .z | with_reducible exact .s .z | with_reducible exact .s (.s .z) | with_reducible exact .s (.s (.s .z)) | with_reducible exact .s (.s (.s (.s .z))) | with_reducible exact .s (.s (.s (.s (.s .z))))); (first | (with_reducible exact (aggP).size) | (with_reducible exact (oneInt).size)); exact rfl; exact rfl; exact rfl; exact rfl; intro w' HM'; clear HM; have HM := HM'; clear HM'; all_goals skip)
      | ((with_reducible apply own_old HM); exact rfl; exact rfl; exact oneStr; (first | (with_reducible exact c6)); exact rfl; exact rfl; all_goals skip)
      | ((with_reducible apply own_cat); exact rfl; exact rfl; exact rfl; (first | assumption | decide | ((try simp only [List.length_append, List.length_cons, List.length_nil]); omega)); exact rfl; all_goals skip)
      | (go_at_call 43; (first | (with_reducible refine (memory_at _ (by decide) _ (Tabs.own hT HM)).mono ?_) | (refine (memory_at _ (by decide) _ (Tabs.own hT HM)).mono ?_)); rintro e w' ⟨rfl, hb⟩; have HM' := Lib.hid (HM.out.call hb); clear HM hb; have HM := HM'; clear HM'))
    go_ret
    exact ⟨rfl, Own.fin HM⟩)
set_option maxRecDepth 100000 in
set_option maxHeartbeats 800000 in
theorem loadEither_at (q : Nat) (a b : Tx) (ha : a.length ≤ 24) (hb : b.length ≤ 24) (w : World) (hTab : Tabs w) : Calls Tryd.prog 53 #[.int .i64 (q : Int), .string ⟨(a).toArray⟩, .string ⟨(b).toArray⟩] w fun e w' => e = .returned (.string ⟨(cLoadEither q a b).toArray⟩) ∧ Below w.heap.size w w' := by
  have hT : Hid (Tabs w) := hTab
  clear hTab
  have HM := Lib.hid (Own.start w)
  have tg1 : Hid True := trivial
  go_enter Tryd.func53, Tryd.ntmps53
  go_wp2_with (first
    | ((with_reducible apply own_box HM); exact rfl; (conv => lhs; whnf); exact rfl; exact rfl; (first | (clear tg1; intro w' g1 HM') | (clear tg2; intro w' g2 HM') | (clear tg3; intro w' g3 HM') | (clear tg4; intro w' g4 HM') | intro w' g' HM'); clear HM; have HM := HM'; clear HM'; all_goals skip) | ((with_reducible apply own_alloc HM); exact rfl; (first | (with_reducible exact zeroP)); exact rfl; (first | (clear tg1; intro w' g1 HM') | (clear tg2; intro w' g2 HM') | (clear tg3; intro w' g3 HM') | (clear tg4; intro w' g4 HM') | intro w' g' HM'); clear HM; have HM := HM'; clear HM'; all_goals skip) | ((with_reducible apply own_cell HM); exact rfl; exact rfl; (first | (with_reducible exact oneInt)); (first | with_reducible exact .z | with_reducible exact .s .z | with_reducible exact .s (.s .z) | with_reducible exact .s (.s (.s .z)) | with_reducible exact .s (.s (.s (.s .z))) | with_reducible exact .s (.s (.s (.s (.s .z))))); (focus repeat' (first | with_reducible exact .z | with_reducible apply Drop.s)); exact rfl; all_goals skip) | ((with_reducible apply own_load HM); exact rfl; exact rfl; (first | (with_reducible exact aggP)); (first | with_reducible exact .z | with_reducible exact .s .z | with_reducible exact .s (.s .z) | with_reducible exact .s (.s (.s .z)) | with_reducible exact .s (.s (.s (.s .z))) | with_reducible exact .s (.s (.s (.s (.s .z))))); (focus repeat' (first | with_reducible exact .z | with_reducible apply Drop.s)); (focus repeat' (first | with_reducible exact .z | with_reducible apply Take.s)); exact rfl; all_goals skip) | ((with_reducible apply own_store HM); exact rfl; exact rfl; (conv => lhs; whnf); exact rfl; (first | with_reducible exact .z | with_reducible exact .s .z | with_reducible exact .s (.s .z) | with_reducible exact .s (.s (.s .z)) | with_reducible exact .s (.s (.s (.s .z))) | with_reducible exact .s (.s (.s (.s (.s .z))))); (focus repeat' (first | with_reducible exact .z | with_reducible apply Over.p | with_reducible apply Over.s)); (first | with_reducible exact .z | with_reducible exact .s .z | with_reducible exact .s (.s .z) | with_reducible exact .s (.s (.s .z)) | with_reducible exact .s (.s (.s (.s .z))) | with_reducible exact .s (.s (.s (.s (.s .z))))); (first | (with_reducible exact (aggP).size) | (with_reducible exact (oneInt).size)); exact rfl; exact rfl; exact rfl; exact rfl; intro w' HM'; clear HM; have HM := HM'; clear HM'; all_goals skip)
    | (go_at_call 52; (first | (with_reducible refine (load_at _ _ (by (first | assumption | decide | ((try simp only [List.length_append, List.length_cons, List.length_nil]); omega))) (by (first | assumption | decide | ((try simp only [List.length_append, List.length_cons, List.length_nil]); omega))) _ (Tabs.own hT HM)).mono ?_) | (refine (load_at _ _ (by (first | assumption | decide | ((try simp only [List.length_append, List.length_cons, List.length_nil]); omega))) (by (first | assumption | decide | ((try simp only [List.length_append, List.length_cons, List.length_nil]); omega))) _ (Tabs.own hT HM)).mono ?_)); rintro e w' ⟨rfl, hb⟩; have HM' := Lib.hid (HM.out.call hb); clear HM hb; have HM := HM'; clear HM'))
  all_goals go_ret
  all_goals refine ⟨congrArg (fun l : Tx => Ending.returned (.string ⟨l.toArray⟩)) (?_ : (_ : Tx) = _), Own.fin HM⟩
  all_goals (unfold cLoadEither; (repeat' split) <;> (first | rfl | (exfalso; simp_all only [beq_iff_eq, beq_eq_false_iff_ne, ne_eq, not_true_eq_false]; try omega; done)))
end Go.Proofs.YtaiceidmcelapaaDoor
