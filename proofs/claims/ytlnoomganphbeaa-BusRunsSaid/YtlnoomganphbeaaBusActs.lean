/-
  What a slice of acts that came in holds; BusRuns for every number of banks and all acts.
-/
import Derived.Test.YtlnoomganphbeaaBusRuns
import Derived.ProofKit
import Derived.OpenShut
import Derived.ChangeOld
import Derived.Below
import Derived.Lib.SmallJoins
import Derived.Deep.Slices
namespace Go.Proofs.Ytlnoomganphbeaa
open Go.ChangeShapes Go.WideShapes Go.ChangeAt Go.RowKit Go.Joins Go.Deep

theorem actCells : Try.prog.cellsOf 40 = 3 := by kernel_rfl
theorem act_cells {H : Type} {enc : TypeId × Value → H} {W : World} {fuel : Nat} {cs : List Value} {y : DataW H × List MemPlace} (h : DataW.trod enc Try.prog W 0 (fun _ => true) true fuel 40 cs = some y) :
    ∃ x : Int × Int × Int, cs = [.int .i64 x.1, .int .u16 x.2.1, .int .u8 x.2.2] ∧ (0 ≤ x.2.1 ∧ x.2.1 ≤ 65535) ∧ (0 ≤ x.2.2 ∧ x.2.2 ≤ 255) := by
  obtain ⟨y0, y1, y2, n, hx, hl, h0, h1, h2⟩ := trod_struct3 Try.underlying40 h
  rw [actCells] at hl
  match cs, hl with
  | [c0, c1, c2], _ =>
    have k0 : Try.prog.cellsOf 3 = 1 := by kernel_rfl
    have k1 : Try.prog.cellsOf 38 = 1 := by kernel_rfl
    have k2 : Try.prog.cellsOf 5 = 1 := by kernel_rfl
    simp [k0] at h0
    simp [k1] at h1
    simp [k2] at h2
    obtain ⟨a, e0, _, _⟩ := DataW.trod_int Try.underlying3 h0
    obtain ⟨b, e1, _, w1⟩ := DataW.trod_int Try.underlying38 h1
    obtain ⟨c, e2, _, w2⟩ := DataW.trod_int Try.underlying5 h2
    simp at e0 e1 e2
    exact ⟨(a, b, c), by rw [e0, e1, e2], bounds_u16 w1, bounds_u8 w2⟩

theorem acts_in {H : Type} {enc : TypeId × Value → H} {W : World} {b0 : Nat} {v : Value} {d : DataW H} {q : List MemPlace} (hv : Value.okWide Try.prog W .any b0 31 v) (h : DataW.Trod enc Try.prog W 0 (fun _ => true) true 31 v d q) :
    ∃ a n cap ac, v = .slice a n cap ∧ ActsIn W W.heap.size a n ac := by
  obtain ⟨a, n, cap, rfl⟩ := okWide_slice Try.underlying31 hv
  obtain ⟨fuel, hf⟩ := h
  rcases open_slice Try.underlying31 hf with ⟨hcs, _⟩ | ⟨ad, l, cp, m, k, D, Pl, hcs, _, hl, hm, hmm, _, hx⟩
  · simp [Value.cells] at hcs
    obtain ⟨rfl, rfl, rfl⟩ := hcs
    exact ⟨none, 0, 0, fun _ => (0, 0, 0), rfl, fun h => absurd h (by omega)⟩
  · simp [Value.cells] at hcs
    obtain ⟨rfl, rfl, rfl⟩ := hcs
    simp at hmm
    subst hmm
    rw [actCells] at hx
    obtain ⟨ac, hac⟩ := choose_lt (α := Int × Int × Int) (n := n) (p := fun i x => W.cell? ((ad.add (i * 3)).add 0) = some (.int .i64 x.1) ∧ W.cell? ((ad.add (i * 3)).add 1) = some (.int .u16 x.2.1) ∧ W.cell? ((ad.add (i * 3)).add 2) = some (.int .u8 x.2.2) ∧ (0 ≤ x.2.1 ∧ x.2.1 ≤ 65535) ∧ (0 ≤ x.2.2 ∧ x.2.2 ≤ 255)) (fun i hi => by
      obtain ⟨cs', h1, h2⟩ := hx i (by omega)
      obtain ⟨_, hlen, hc⟩ := World.cells?_some h1
      obtain ⟨x, rfl, b1, b2⟩ := act_cells h2
      exact ⟨x, hc 0 (by omega), hc 1 (by omega), hc 2 (by omega), b1, b2⟩)
    refine ⟨some ad, n, _, ac, rfl, fun hn => ?_⟩
    have h0 := (hac 0 hn).1
    obtain ⟨g, o, s⟩ := ad
    have hs : s = none := by simpa [Addr.add] using World.cell?_spot h0
    subst hs
    have hg : g < W.heap.size := by
      have := World.block_lt_of_cell? W _ h0
      simpa [Addr.add] using this
    refine ⟨g, o, rfl, hg, fun i hi => ?_⟩
    have hi' := hac i hi
    have e0 : (⟨g, o, none⟩ : Addr).add (i * 3) = ⟨g, o + i * 3, none⟩ := by unfold Addr.add; split <;> simp_all
    have e1 : (⟨g, o + i * 3, none⟩ : Addr).add 0 = ⟨g, o + i * 3, none⟩ := by simp [Addr.add]
    have e2 : (⟨g, o + i * 3, none⟩ : Addr).add 1 = ⟨g, o + i * 3 + 1, none⟩ := by simp [Addr.add]
    have e3 : (⟨g, o + i * 3, none⟩ : Addr).add 2 = ⟨g, o + i * 3 + 2, none⟩ := by simp [Addr.add]
    rw [e0, e1, e2, e3] at hi'
    exact hi'

theorem runs_any (banks : Int) (a : Option Addr) (n cap : Nat) (ac : Nat → Int × Int × Int) (w : World) (ha : ActsIn w w.heap.size a n ac) :
    Calls Try.prog 4 #[.int .i64 banks, .slice a n cap] w fun e w' => e = .returned (.bool true) ∧ Below w.heap.size w w' := by
  by_cases hh : (banks < 0 ∨ 12 < banks) ∨ 200 < n
  · exact runs_out banks a n cap hh w
  · obtain ⟨nb, rfl⟩ := Int.eq_ofNat_of_zero_le (show 0 ≤ banks by omega)
    exact runs_in nb (by omega) a n cap (by omega) ac w ha

end Go.Proofs.Ytlnoomganphbeaa
