/-
  An array of 11 bytes that came in by value. Nothing here speaks of the program but the type's number.
-/
import Derived.Test.YtcefgcoibppdaaaArrays
import Derived.ProofKit
import Derived.OpenShut
import Derived.ChangeOld
import Derived.Below
import Derived.Lib.SmallJoins
import Derived.ChangeArms
namespace Go.Proofs.Ytcefgcoibppdaaa
open Go.ChangeShapes Go.WideShapes Go.ChangeAt Go.RowKit Go.Joins

theorem nat_of_u8 {z : Int} (h : (Lit.int .u8 z).wf = true) : ∃ a : Nat, z = (a : Int) ∧ a < 256 := by
  have b := bounds_u8 h
  exact ⟨z.toNat, by omega, by omega⟩
theorem vregs_in {H : Type} {enc : TypeId × Value → H} {W : World} {b0 : Nat} {v : Value} {d : DataW H} {q : List MemPlace} (hv : Value.okWide Try.prog W .any b0 26 v) (h : DataW.Trod enc Try.prog W 0 (fun _ => true) true 26 v d q) :
    ∃ r0 r1 r2 r3 r4 r5 r6 r7 r8 r9 r10 : Nat, v = .agg #[.int .u8 (r0 : Int), .int .u8 (r1 : Int), .int .u8 (r2 : Int), .int .u8 (r3 : Int), .int .u8 (r4 : Int), .int .u8 (r5 : Int), .int .u8 (r6 : Int), .int .u8 (r7 : Int), .int .u8 (r8 : Int), .int .u8 (r9 : Int), .int .u8 (r10 : Int)] ∧ r0 < 256 ∧ r1 < 256 ∧ r2 < 256 ∧ r3 < 256 ∧ r4 < 256 ∧ r5 < 256 ∧ r6 < 256 ∧ r7 < 256 ∧ r8 < 256 ∧ r9 < 256 ∧ r10 < 256 := by
  obtain ⟨zs, hz, hl, hw⟩ := open_arr_ints Try.underlying26 Try.underlying5 (by kernel_rfl) (by kernel_rfl) hv h
  match zs, hl, hw, hz with
  | [z0, z1, z2, z3, z4, z5, z6, z7, z8, z9, z10], _, hw, hz =>
    obtain ⟨r0, e0, b0⟩ := nat_of_u8 (hw z0 (by simp))
    obtain ⟨r1, e1, b1⟩ := nat_of_u8 (hw z1 (by simp))
    obtain ⟨r2, e2, b2⟩ := nat_of_u8 (hw z2 (by simp))
    obtain ⟨r3, e3, b3⟩ := nat_of_u8 (hw z3 (by simp))
    obtain ⟨r4, e4, b4⟩ := nat_of_u8 (hw z4 (by simp))
    obtain ⟨r5, e5, b5⟩ := nat_of_u8 (hw z5 (by simp))
    obtain ⟨r6, e6, b6⟩ := nat_of_u8 (hw z6 (by simp))
    obtain ⟨r7, e7, b7⟩ := nat_of_u8 (hw z7 (by simp))
    obtain ⟨r8, e8, b8⟩ := nat_of_u8 (hw z8 (by simp))
    obtain ⟨r9, e9, b9⟩ := nat_of_u8 (hw z9 (by simp))
    obtain ⟨r10, e10, b10⟩ := nat_of_u8 (hw z10 (by simp))
    exact ⟨r0, r1, r2, r3, r4, r5, r6, r7, r8, r9, r10, by rw [hz, e0, e1, e2, e3, e4, e5, e6, e7, e8, e9, e10]; rfl, b0, b1, b2, b3, b4, b5, b6, b7, b8, b9, b10⟩

end Go.Proofs.Ytcefgcoibppdaaa
