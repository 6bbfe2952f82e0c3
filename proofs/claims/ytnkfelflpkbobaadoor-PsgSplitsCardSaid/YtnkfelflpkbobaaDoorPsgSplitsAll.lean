/-
  The law PsgSplits returns true for any sound and any four numbers, and writes nothing that was there.
-/
import Derived.Test.YtnkfelflpkbobaaDoorPsgSplits
import Derived.Test.YtnkfelflpkbobaaDoorPsgSplitsOut
namespace Go.Proofs.YtnkfelflpkbobaaDoor
open Go.RowKit

theorem splits_any (S : Snd) (hS : S.Fits) (n0 n1 e ph : Int) (w : World) (hT : Tab w) :
    Calls Tryd.prog 5 #[.agg S.cells.toArray, .agg #[.int .i64 n0, .int .i64 n1, .int .i64 e, .int .i64 ph]] w fun r w' => r = .returned (.bool true) ∧ Below w.heap.size w w' := by
  by_cases h : S.right = false ∨ n0 < 0 ∨ n1 < 0 ∨ 2000 < n0 ∨ 2000 < n1 ∨ e < 1 ∨ 100 < e ∨ ph < 0 ∨ 100 < ph
  · exact splits_out S hS n0 n1 e ph h w hT
  · have hr : S.right = true := by
      rcases Bool.eq_false_or_eq_true S.right with h1 | h1
      · exact h1
      · exact absurd (.inl h1) h
    have hb : 0 ≤ n0 ∧ 0 ≤ n1 ∧ n0 ≤ 2000 ∧ n1 ≤ 2000 ∧ 1 ≤ e ∧ e ≤ 100 ∧ 0 ≤ ph ∧ ph ≤ 100 := by
      have h2 : ¬ (n0 < 0 ∨ n1 < 0 ∨ 2000 < n0 ∨ 2000 < n1 ∨ e < 1 ∨ 100 < e ∨ ph < 0 ∨ 100 < ph) := fun h3 => h (.inr h3)
      omega
    obtain ⟨b0, b1, b2, b3, b4, b5, b6, b7⟩ := hb
    obtain ⟨a, rfl⟩ := Int.eq_ofNat_of_zero_le b0
    obtain ⟨b, rfl⟩ := Int.eq_ofNat_of_zero_le b1
    obtain ⟨c, rfl⟩ := Int.eq_ofNat_of_zero_le (show 0 ≤ e by omega)
    obtain ⟨d, rfl⟩ := Int.eq_ofNat_of_zero_le b6
    exact splits_in S (hS.good hr) a b c d (by omega) (by omega) (by omega) (by omega) (by omega) w hT

end Go.Proofs.YtnkfelflpkbobaaDoor
