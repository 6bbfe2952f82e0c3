/-
  A slice of bools that came in, by its cells. Nothing here speaks of the program.
-/
import Derived.Test.YtelncbajkbgepaaWords
import Derived.ProofKit
import Derived.OpenShut
import Derived.ChangeOld
import Derived.Below
import Derived.Lib.SmallJoins
import Derived.Deep.Grids
namespace Go.Proofs.Ytelncbajkbgepaa
open Go.ChangeShapes Go.WideShapes Go.ChangeAt Go.RowKit Go.Joins Go.Deep

/-- a slice value over so many bools, in memory from before -/
def BoolsIn (w : World) (a : Option Addr) (n : Nat) (B : Nat → Bool) : Prop := 0 < n → ∃ g o, a = some ⟨g, o, none⟩ ∧ g < w.heap.size ∧ ∀ i, i < n → w.cell? ⟨g, o + i, none⟩ = some (.bool (B i))

theorem bools_in {H : Type} {enc : TypeId × Value → H} {P : Program} {W : World} {b0 : Nat} {t e : TypeId} {v : Value} {d : DataW H} {q : List MemPlace} (ht : P.underlying t = some (.slice e)) (he : P.underlying e = some .bool) (hc : P.cellsOf e = 1)
    (hv : Value.okWide P W .any b0 t v) (h : DataW.Trod enc P W 0 (fun _ => true) true t v d q) : ∃ a n cap B, v = .slice a n cap ∧ n ≤ maxLen ∧ BoolsIn W a n B := by
  obtain ⟨a, n, cap, rfl⟩ := okWide_slice ht hv
  obtain ⟨fuel, hf⟩ := h
  rcases open_bools ht he hc hf with ⟨hcs, _⟩ | ⟨ad, l, cp, B, hcs, _, hl, hm, _, hx⟩
  · simp [Value.cells] at hcs
    obtain ⟨rfl, rfl, rfl⟩ := hcs
    exact ⟨none, 0, 0, fun _ => false, rfl, by unfold maxLen; omega, fun h => absurd h (by omega)⟩
  · simp [Value.cells] at hcs
    obtain ⟨rfl, rfl, rfl⟩ := hcs
    refine ⟨some ad, n, _, B, rfl, by omega, fun hn => ?_⟩
    have h0 := hx 0 (by omega)
    obtain ⟨g, o, s⟩ := ad
    have hs : s = none := by simpa [Addr.add] using World.cell?_spot h0
    subst hs
    have hg : g < W.heap.size := by
      have := World.block_lt_of_cell? W _ h0
      simpa [Addr.add] using this
    refine ⟨g, o, rfl, hg, fun i hi => ?_⟩
    have e0 : (⟨g, o, none⟩ : Addr).add i = ⟨g, o + i, none⟩ := by unfold Addr.add; split <;> simp_all
    have := hx i (by omega)
    rwa [e0] at this

end Go.Proofs.Ytelncbajkbgepaa
