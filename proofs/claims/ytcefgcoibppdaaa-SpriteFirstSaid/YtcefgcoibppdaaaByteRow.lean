/-
  A slice of bytes that came in, by its numbers: each below 256.
-/
import Derived.Test.YtcefgcoibppdaaaWords
import Derived.ProofKit
import Derived.OpenShut
import Derived.ChangeOld
import Derived.Below
import Derived.Lib.SmallJoins
namespace Go.Proofs.Ytcefgcoibppdaaa
open Go.ChangeShapes Go.WideShapes Go.ChangeAt Go.RowKit Go.Joins

/-- a slice value over n bytes in memory from before -/
def ByteRow (w : World) (a : Option Addr) (n : Nat) (xs : Nat → Nat) : Prop :=
  0 < n → ∃ g o, a = some ⟨g, o, none⟩ ∧ g < w.heap.size ∧ ∀ i, i < n → w.cell? ⟨g, o + i, none⟩ = some (.int .u8 (xs i : Int)) ∧ xs i < 256

theorem byteRow_in {H : Type} {enc : TypeId × Value → H} {W : World} {b0 : Nat} {v : Value} {d : DataW H} {q : List MemPlace} (hv : Value.okWide Try.prog W .any b0 22 v) (h : DataW.Trod enc Try.prog W 0 (fun _ => true) true 22 v d q) :
    ∃ a n cap xs, v = .slice a n cap ∧ ByteRow W a n xs := by
  obtain ⟨a, n, cap, rfl⟩ := okWide_slice Try.underlying22 hv
  obtain ⟨fuel, hf⟩ := h
  rcases open_ints Try.underlying22 Try.underlying5 (by kernel_rfl) hf with ⟨hcs, _⟩ | ⟨ad, l, cp, zs, hcs, _, hl, hm, hz, _, hcell, hwf⟩
  · simp [Value.cells] at hcs
    obtain ⟨rfl, rfl, rfl⟩ := hcs
    exact ⟨none, 0, 0, fun _ => 0, rfl, fun h => absurd h (by omega)⟩
  · simp [Value.cells] at hcs
    obtain ⟨rfl, rfl, rfl⟩ := hcs
    simp at hz
    refine ⟨some ad, n, cap, fun i => (zs.getD i 0).toNat, rfl, fun hn => ?_⟩
    have h0 := hcell 0 (by omega)
    obtain ⟨g, o, s⟩ := ad
    have hs : s = none := by simpa [Addr.add] using World.cell?_spot h0
    subst hs
    have hg : g < W.heap.size := by
      have := World.block_lt_of_cell? W _ h0
      simpa [Addr.add] using this
    refine ⟨g, o, rfl, hg, fun i hi => ?_⟩
    have hi' := hcell i (by omega)
    have ha : (⟨g, o, none⟩ : Addr).add i = ⟨g, o + i, none⟩ := by unfold Addr.add; split <;> simp_all
    have e : zs.getD i 0 = zs[i]'(by omega) := by simp [List.getD_eq_getElem?_getD, show i < zs.length by omega]
    have hb := bounds_u8 (hwf (zs[i]'(by omega)) (List.getElem_mem _))
    rw [ha] at hi'
    show W.cell? ⟨g, o + i, none⟩ = some (.int .u8 (((zs.getD i 0).toNat : Nat) : Int)) ∧ (zs.getD i 0).toNat < 256
    rw [e]
    refine ⟨?_, by omega⟩
    rw [hi', Int.toNat_of_nonneg (by omega), e]

end Go.Proofs.Ytcefgcoibppdaaa
