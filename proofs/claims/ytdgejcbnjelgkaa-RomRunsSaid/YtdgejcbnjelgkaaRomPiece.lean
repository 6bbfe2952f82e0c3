/-
  What a piece that came in holds: its bytes lie in memory, its numbers are numbers.
-/
import Derived.Test.YtdgejcbnjelgkaaRomGrows
import Derived.ProofKit
import Derived.OpenShut
import Derived.ChangeOld
import Derived.Below
import Derived.Lib.SmallJoins
namespace Go.Proofs.Ytdgejcbnjelgkaa
open Go.ChangeShapes Go.WideShapes Go.ChangeAt Go.RowKit Go.Joins

theorem ownKnobNone : ownKnob Try.prog.godebug = none := by kernel_rfl
theorem laidOutTrue : laidOutB Try.prog = true := by kernel_rfl
theorem pieceCells : Try.prog.cellsOf 29 = 4 := by kernel_rfl

theorem add_zero_spot {a : Addr} {w : World} {v : Value} (h : w.cell? (a.add 0) = some v) : a.spot = none := by simpa [Addr.add] using World.cell?_spot h

theorem bytes_in {H : Type} {enc : TypeId × Value → H} {W : World} {fuel : Nat} {c : Value} {y : DataW H × List MemPlace} (h : DataW.trod enc Try.prog W 0 (fun _ => true) true fuel 25 [c] = some y) :
    ∃ a n cap zs, c = .slice a n cap ∧ n ≤ cap ∧ cap ≤ maxLen ∧ Bytes W W.heap.size a n zs := by
  rcases open_ints Try.underlying25 Try.underlying5 (by kernel_rfl) h with ⟨hcs, _⟩ | ⟨ad, l, cp, zs, hcs, _, hl, hm, hz, _, hcell, _⟩
  · simp at hcs
    exact ⟨none, 0, 0, [], hcs, Nat.le_refl _, by unfold maxLen; omega, rfl, fun h => absurd h (by omega)⟩
  · simp at hcs
    refine ⟨some ad, l, cp, zs.take l, hcs, hl, hm, ?_, fun hp => ?_⟩
    · simp at hz; rw [List.length_take]; omega
    · simp at hz
      have h0 := hcell 0 (by omega)
      obtain ⟨g, o, s⟩ := ad
      have hs : s = none := add_zero_spot h0
      subst hs
      have hg : g < W.heap.size := by
        have := World.block_lt_of_cell? W _ h0
        simpa [Addr.add] using this
      refine ⟨g, o, rfl, hg, fun i hi => ?_⟩
      have hi' := hcell i (by omega)
      have ha : (⟨g, o, none⟩ : Addr).add i = ⟨g, o + i, none⟩ := by unfold Addr.add; split <;> simp_all
      rw [ha] at hi'
      rw [hi']
      simp [List.getD_eq_getElem?_getD, hi]

theorem piece_in {H : Type} {enc : TypeId × Value → H} {W : World} {b0 : Nat} {v : Value} {d : DataW H} {ps : List MemPlace} (hv : Value.okWide Try.prog W .any b0 29 v) (h : DataW.Trod enc Try.prog W 0 (fun _ => true) true 29 v d ps) :
    ∃ a n cap zs m p x, v = .agg #[.slice a n cap, .int .i64 m, .int .i64 p, .int .u8 x] ∧ n ≤ cap ∧ cap ≤ maxLen ∧ Bytes W W.heap.size a n zs := by
  obtain ⟨c0, c1, c2, c3, y0, y1, y2, y3, k, rfl, _, _, hy0, hy1, hy2, hy3⟩ := open_agg4 Try.underlying29 (by kernel_rfl) pieceCells hv h
  obtain ⟨a, n, cap, zs, rfl, hnc, hm, hb⟩ := bytes_in hy0
  obtain ⟨m, e1, _, _⟩ := DataW.trod_int Try.underlying3 hy1
  obtain ⟨p, e2, _, _⟩ := DataW.trod_int Try.underlying3 hy2
  obtain ⟨x, e3, _, _⟩ := DataW.trod_int Try.underlying5 hy3
  simp at e1 e2 e3
  subst e1 e2 e3
  exact ⟨a, n, cap, zs, m, p, x, rfl, hnc, hm, hb⟩

theorem grows_any (a : Option Addr) (n cap : Nat) (zs : List Int) (m p x t : Int) (w : World) (hb : Bytes w w.heap.size a n zs) :
    Calls Try.prog 6 #[.agg #[.slice a n cap, .int .i64 m, .int .i64 p, .int .u8 x], .int .i64 t] w fun e w' => e = .returned (.bool true) ∧ Below w.heap.size w w' := by
  rcases Nat.lt_or_ge 5000 n with h | h
  · exact grows_long a n cap m p x t w h
  · exact grows_short a n cap zs m p x t w hb h

end Go.Proofs.Ytdgejcbnjelgkaa
