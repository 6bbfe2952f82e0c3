/-
  An array of 2 bytes that came in by value. Nothing here speaks of the program but the type's number.
-/
import Derived.Test.YtnkckdlolieojaaArr11Open
import Derived.ProofKit
import Derived.OpenShut
import Derived.ChangeOld
import Derived.Below
import Derived.Lib.SmallJoins
import Derived.ChangeArms
namespace Go.Proofs.Ytnkckdlolieojaa
open Go.ChangeShapes Go.WideShapes Go.ChangeAt Go.RowKit Go.Joins

theorem two_in {H : Type} {enc : TypeId × Value → H} {W : World} {b0 : Nat} {v : Value} {d : DataW H} {q : List MemPlace} (hv : Value.okWide Try.prog W .any b0 39 v) (h : DataW.Trod enc Try.prog W 0 (fun _ => true) true 39 v d q) :
    ∃ r0 r1 : Nat, v = .agg #[.int .u8 (r0 : Int), .int .u8 (r1 : Int)] ∧ r0 < 256 ∧ r1 < 256 := by
  obtain ⟨zs, hz, hl, hw⟩ := open_arr_ints Try.underlying39 Try.underlying5 (by kernel_rfl) (by kernel_rfl) hv h
  match zs, hl, hw, hz with
  | [z0, z1], _, hw, hz =>
    obtain ⟨r0, e0, b0⟩ := nat_of_u8 (hw z0 (by simp))
    obtain ⟨r1, e1, b1⟩ := nat_of_u8 (hw z1 (by simp))
    exact ⟨r0, r1, by rw [hz, e0, e1]; rfl, b0, b1⟩

end Go.Proofs.Ytnkckdlolieojaa
