/-
  A slice of acts (two ints each) that came in, by its cells.
-/
import Derived.Test.YtnkfelflpkbobaaDoorPsgKinds
import Derived.ProofKit
import Derived.OpenShut
import Derived.ChangeOld
import Derived.Below
import Derived.Lib.SmallJoins
import Derived.Deep.Slices
namespace Go.Proofs.YtnkfelflpkbobaaDoor
open Go.ChangeShapes Go.WideShapes Go.ChangeAt Go.RowKit Go.Joins Go.Deep

/-- a slice value over so many acts, in memory from before -/
def ActsIn (w : World) (a : Option Addr) (n : Nat) (ac : Nat → Int × Int) : Prop :=
  0 < n → ∃ g o, a = some ⟨g, o, none⟩ ∧ g < w.heap.size ∧ ∀ i, i < n → w.cell? ⟨g, o + i * 2, none⟩ = some (.int .i64 (ac i).1) ∧ w.cell? ⟨g, o + i * 2 + 1, none⟩ = some (.int .i64 (ac i).2)

theorem actCells : Tryd.prog.cellsOf 38 = 2 := by kernel_rfl
theorem act_cells {H : Type} {enc : TypeId × Value → H} {W : World} {fuel : Nat} {cs : List Value} {y : DataW H × List MemPlace} (h : DataW.trod enc Tryd.prog W 0 (fun _ => true) true fuel 38 cs = some y) :
    ∃ x : Int × Int, cs = [.int .i64 x.1, .int .i64 x.2] := by
  obtain ⟨y0, y1, n, hx, hl, h0, h1⟩ := trod_struct2 Tryd.underlying38 h
  rw [actCells] at hl
  match cs, hl with
  | [c0, c1], _ =>
    have k0 : Tryd.prog.cellsOf 3 = 1 := by kernel_rfl
    simp [k0] at h0
    simp [k0] at h1
    obtain ⟨a, e0, _, _⟩ := DataW.trod_int Tryd.underlying3 h0
    obtain ⟨b, e1, _, _⟩ := DataW.trod_int Tryd.underlying3 h1
    simp at e0 e1
    exact ⟨(a, b), by rw [e0, e1]⟩

theorem acts_in {H : Type} {enc : TypeId × Value → H} {W : World} {b0 : Nat} {v : Value} {d : DataW H} {q : List MemPlace} (hv : Value.okWide Tryd.prog W .any b0 36 v) (h : DataW.Trod enc Tryd.prog W 0 (fun _ => true) true 36 v d q) :
    ∃ a n cap ac, v = .slice a n cap ∧ ActsIn W a n ac := by
  obtain ⟨a, n, cap, rfl⟩ := okWide_slice Tryd.underlying36 hv
  obtain ⟨fuel, hf⟩ := h
  rcases open_slice Tryd.underlying36 hf with ⟨hcs, _⟩ | ⟨ad, l, cp, m, k, D, Pl, hcs, _, hl, hm, hmm, _, hx⟩
  · simp [Value.cells] at hcs
    obtain ⟨rfl, rfl, rfl⟩ := hcs
    exact ⟨none, 0, 0, fun _ => (0, 0), rfl, fun h => absurd h (by omega)⟩
  · simp [Value.cells] at hcs
    obtain ⟨rfl, rfl, rfl⟩ := hcs
    simp at hmm
    subst hmm
    rw [actCells] at hx
    obtain ⟨ac, hac⟩ := choose_lt (α := Int × Int) (n := n) (p := fun i x => W.cell? ((ad.add (i * 2)).add 0) = some (.int .i64 x.1) ∧ W.cell? ((ad.add (i * 2)).add 1) = some (.int .i64 x.2)) (fun i hi => by
      obtain ⟨cs', h1, h2⟩ := hx i (by omega)
      obtain ⟨_, hlen, hc⟩ := World.cells?_some h1
      obtain ⟨x, rfl⟩ := act_cells h2
      exact ⟨x, hc 0 (by omega), hc 1 (by omega)⟩)
    refine ⟨some ad, n, _, ac, rfl, fun hn => ?_⟩
    have h0 := (hac 0 hn).1
    obtain ⟨g, o, s⟩ := ad
    have hs : s = none := by simpa [Addr.add] using World.cell?_spot h0
    subst hs
    have hg : g < W.heap.size := by
      have := World.block_lt_of_cell? W _ h0
      simpa [Addr.add] using this
    refine ⟨g, o, rfl, hg, fun i hi => ?_⟩
    have hi' := hac i hi
    have e0 : (⟨g, o, none⟩ : Addr).add (i * 2) = ⟨g, o + i * 2, none⟩ := by unfold Addr.add; split <;> simp_all
    have e1 : (⟨g, o + i * 2, none⟩ : Addr).add 0 = ⟨g, o + i * 2, none⟩ := by simp [Addr.add]
    have e2 : (⟨g, o + i * 2, none⟩ : Addr).add 1 = ⟨g, o + i * 2 + 1, none⟩ := by simp [Addr.add]
    rw [e0, e1, e2] at hi'
    exact hi'

end Go.Proofs.YtnkfelflpkbobaaDoor
