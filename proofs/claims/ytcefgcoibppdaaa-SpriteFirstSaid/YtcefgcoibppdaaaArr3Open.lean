/-
  An array of 3 bytes that came in by value. Nothing here speaks of the program but the type's number.
-/
import Derived.Test.YtcefgcoibppdaaaArr11Open
import Derived.ProofKit
import Derived.OpenShut
import Derived.ChangeOld
import Derived.Below
import Derived.Lib.SmallJoins
import Derived.ChangeArms
namespace Go.Proofs.Ytcefgcoibppdaaa
open Go.ChangeShapes Go.WideShapes Go.ChangeAt Go.RowKit Go.Joins

theorem three_in {H : Type} {enc : TypeId × Value → H} {W : World} {b0 : Nat} {v : Value} {d : DataW H} {q : List MemPlace} (hv : Value.okWide Try.prog W .any b0 36 v) (h : DataW.Trod enc Try.prog W 0 (fun _ => true) true 36 v d q) :
    ∃ r0 r1 r2 : Nat, v = .agg #[.int .u8 (r0 : Int), .int .u8 (r1 : Int), .int .u8 (r2 : Int)] ∧ r0 < 256 ∧ r1 < 256 ∧ r2 < 256 := by
  obtain ⟨zs, hz, hl, hw⟩ := open_arr_ints Try.underlying36 Try.underlying5 (by kernel_rfl) (by kernel_rfl) hv h
  match zs, hl, hw, hz with
  | [z0, z1, z2], _, hw, hz =>
    obtain ⟨r0, e0, b0⟩ := nat_of_u8 (hw z0 (by simp))
    obtain ⟨r1, e1, b1⟩ := nat_of_u8 (hw z1 (by simp))
    obtain ⟨r2, e2, b2⟩ := nat_of_u8 (hw z2 (by simp))
    exact ⟨r0, r1, r2, by rw [hz, e0, e1, e2]; rfl, b0, b1, b2⟩

end Go.Proofs.Ytcefgcoibppdaaa
