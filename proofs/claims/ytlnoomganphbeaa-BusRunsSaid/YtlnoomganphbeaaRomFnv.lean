/-
  The sum over bytes, as a fold: the plain function.
-/
import Derived.Test.YtlnoomganphbeaaWords
namespace Go.Proofs.Ytlnoomganphbeaa
open Go.RowKit

def fnvF (s z : Int) : Int := bits .xor .u32 s (z % 4294967296) * 16777619 % 4294967296
def fnv (zs : List Int) : Int := zs.foldl fnvF 2166136261
theorem fnv_snoc (zs : List Int) (k : Nat) (h : k < zs.length) : fnv (zs.take (k + 1)) = fnvF (fnv (zs.take k)) (zs[k]?.getD 0) := by
  rw [List.take_succ_eq_append_getElem h, fnv, List.foldl_append]
  simp [fnv, h]

end Go.Proofs.Ytlnoomganphbeaa
