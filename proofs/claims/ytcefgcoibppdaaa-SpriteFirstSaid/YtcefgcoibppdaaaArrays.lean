/-
  An array of integers that came in by value: it is so many integers, each in its kind's range. Nothing here speaks of the program.
-/
import Derived.Test.YtcefgcoibppdaaaZeros
import Derived.ProofKit
import Derived.OpenShut
import Derived.ChangeOld
import Derived.Below
import Derived.Lib.SmallJoins
namespace Go.Proofs.Ytcefgcoibppdaaa
open Go.ChangeShapes Go.WideShapes Go.ChangeAt Go.RowKit Go.Joins

theorem okWide_arr {P : Program} {w : World} {r : Reach} {b0 n : Nat} {t e : TypeId} {v : Value} (ht : P.underlying t = some (.array n e)) (h : Value.okWide P w r b0 t v) : ∃ cs, v = .agg cs ∧ cs.size = P.cellsOf t := by
  simp only [Value.okWide, ht] at h
  obtain ⟨cs, h1, h2, _⟩ := h
  exact ⟨cs, h1, h2⟩

theorem ints_of_cells {H : Type} {enc : TypeId × Value → H} {P : Program} {w : World} {base : Nat} {spare : Nat → Bool} {held : Bool} {m : Nat} {e : TypeId} {k : IntKind} (he : P.underlying e = some (.int k)) (hc : P.cellsOf e = 1) :
    ∀ (cs : List Value), (∀ i, i < cs.length → ∃ x, DataW.trod enc P w base spare held m e ((cs.drop (i * P.cellsOf e)).take (P.cellsOf e)) = some x) → ∃ zs : List Int, cs = zs.map (Value.int k) ∧ ∀ z ∈ zs, (Lit.int k z).wf = true
  | [], _ => ⟨[], rfl, fun z hz => by simp at hz⟩
  | c :: r, h => by
    obtain ⟨zs, hr, hz⟩ := ints_of_cells he hc r (fun i hi => by
      obtain ⟨x, hx⟩ := h (i + 1) (by simp; omega)
      refine ⟨x, ?_⟩
      rw [hc] at hx ⊢
      simpa using hx)
    obtain ⟨x, hx⟩ := h 0 (by simp)
    rw [hc] at hx
    simp at hx
    obtain ⟨z, e1, _, wz⟩ := DataW.trod_int he hx
    simp at e1
    exact ⟨z :: zs, by rw [hr, e1]; rfl, fun y hy => by
      rcases List.mem_cons.1 hy with rfl | hy
      · exact wz
      · exact hz y hy⟩

/-- an array of n integers by value -/
theorem open_arr_ints {H : Type} {enc : TypeId × Value → H} {P : Program} {w : World} {base : Nat} {spare : Nat → Bool} {held : Bool} {r : Reach} {b0 n : Nat} {t e : TypeId} {k : IntKind} {v : Value} {d : DataW H} {ps : List MemPlace}
    (ht : P.underlying t = some (.array n e)) (he : P.underlying e = some (.int k)) (hc : P.cellsOf e = 1) (hct : P.cellsOf t = n) (hv : Value.okWide P w r b0 t v) (h : DataW.Trod enc P w base spare held t v d ps) :
    ∃ zs : List Int, v = .agg (zs.map (Value.int k)).toArray ∧ zs.length = n ∧ ∀ z ∈ zs, (Lit.int k z).wf = true := by
  obtain ⟨cs, rfl, hsz⟩ := okWide_arr ht hv
  obtain ⟨fuel, hf⟩ := h
  obtain ⟨xs, m, _, _, _, hxl, hxs⟩ := DataW.trod_array ht hf
  have hf' : ∀ i, i < cs.toList.length → ∃ x, DataW.trod enc P w base spare held m e ((cs.toList.drop (i * P.cellsOf e)).take (P.cellsOf e)) = some x := fun i hi => by
    have hi' : i < n := by rw [← hct, ← hsz]; simpa using hi
    have := hxs i hi'
    rw [List.getElem?_eq_getElem (by omega)] at this
    exact ⟨_, this⟩
  obtain ⟨zs, hz, hw⟩ := ints_of_cells he hc cs.toList hf'
  refine ⟨zs, ?_, ?_, hw⟩
  · rw [← hz]
  · have := congrArg List.length hz
    simp at this
    omega

end Go.Proofs.Ytcefgcoibppdaaa
