/-
  A block of bytes, turned into a text.
-/
import Derived.Test.YtlnoomganphbeaaRomNew
import Derived.Laws.BytesArg
namespace Go.Proofs.Ytlnoomganphbeaa
open Go.RowKit

theorem text_of {w : World} {g R c : Nat} {zs : List Int} (hR : R = zs.length) (h : Whole w g 5 (u8s zs)) :
    (convert 29 9 (.slice (some ⟨g, 0, none⟩) R c)).run Try.prog w = .ok (.string (strOfNums zs)) w := by
  subst hR
  refine run_convert_bytes_arg w 29 5 Try.underlying29 Try.underlying5 g 0 zs.length c zs rfl (fun i hi => ?_) 9 Try.underlying9
  rw [Nat.zero_add, h.at_ i, u8s_get]
  simp [List.getD_eq_getElem?_getD, hi]

end Go.Proofs.Ytlnoomganphbeaa
