/-
  What a piece that came in holds, with the ranges of its bytes; what a slice of pairs that came in holds.
-/
import Derived.Test.YtdgejcbnjelgkaaRomPiece
import Derived.Test.YtdgejcbnjelgkaaRomRefMore
import Derived.Deep.Slices
namespace Go.Proofs.Ytdgejcbnjelgkaa
open Go.ChangeShapes Go.WideShapes Go.ChangeAt Go.RowKit Go.Joins Go.Deep

theorem byte_of_wf {n : Int} (h : (Lit.int .u8 n).wf = true) : 0 ≤ n ∧ n < 256 := by
  have := bounds_u8 h
  omega

theorem bytes_in_range {H : Type} {enc : TypeId × Value → H} {W : World} {fuel : Nat} {c : Value} {y : DataW H × List MemPlace} (h : DataW.trod enc Try.prog W 0 (fun _ => true) true fuel 25 [c] = some y) :
    ∃ a n cap zs, c = .slice a n cap ∧ n ≤ cap ∧ cap ≤ maxLen ∧ Bytes W W.heap.size a n zs ∧ InByte zs := by
  rcases open_ints Try.underlying25 Try.underlying5 (by kernel_rfl) h with ⟨hcs, _⟩ | ⟨ad, l, cp, zs, hcs, _, hl, hm, hz, _, hcell, hwf⟩
  · simp at hcs
    exact ⟨none, 0, 0, [], hcs, Nat.le_refl _, by unfold maxLen; omega, ⟨rfl, fun h => absurd h (by omega)⟩, fun z hz => by simp at hz⟩
  · simp at hcs
    refine ⟨some ad, l, cp, zs.take l, hcs, hl, hm, ⟨?_, fun hp => ?_⟩, fun z hz => byte_of_wf (hwf z (List.mem_of_mem_take hz))⟩
    · simp at hz; rw [List.length_take]; omega
    · simp at hz
      have h0 := hcell 0 (by omega)
      obtain ⟨g, o, s⟩ := ad
      have hs : s = none := add_zero_spot h0
      subst hs
      have hg : g < W.heap.size := by
        have := World.block_lt_of_cell? W _ h0
        simpa [Addr.add] using this
      refine ⟨g, o, rfl, hg, fun i hi => ?_⟩
      have hi' := hcell i (by omega)
      have ha : (⟨g, o, none⟩ : Addr).add i = ⟨g, o + i, none⟩ := by unfold Addr.add; split <;> simp_all
      rw [ha] at hi'
      rw [hi']
      simp [List.getD_eq_getElem?_getD, hi]

theorem piece_in_range {H : Type} {enc : TypeId × Value → H} {W : World} {b0 : Nat} {v : Value} {d : DataW H} {ps : List MemPlace} (hv : Value.okWide Try.prog W .any b0 29 v) (h : DataW.Trod enc Try.prog W 0 (fun _ => true) true 29 v d ps) :
    ∃ a n cap zs m p x, v = .agg #[.slice a n cap, .int .i64 m, .int .i64 p, .int .u8 x] ∧ Bytes W W.heap.size a n zs ∧ InByte zs ∧ (0 ≤ x ∧ x < 256) := by
  obtain ⟨c0, c1, c2, c3, y0, y1, y2, y3, k, rfl, _, _, hy0, hy1, hy2, hy3⟩ := open_agg4 Try.underlying29 (by kernel_rfl) pieceCells hv h
  obtain ⟨a, n, cap, zs, rfl, hnc, hm, hb, hin⟩ := bytes_in_range hy0
  obtain ⟨m, e1, _, _⟩ := DataW.trod_int Try.underlying3 hy1
  obtain ⟨p, e2, _, _⟩ := DataW.trod_int Try.underlying3 hy2
  obtain ⟨x, e3, _, wx⟩ := DataW.trod_int Try.underlying5 hy3
  simp at e1 e2 e3
  subst e1 e2 e3
  exact ⟨a, n, cap, zs, m, p, x, rfl, hb, hin, byte_of_wf wx⟩

theorem pairCells : Try.prog.cellsOf 39 = 2 := by kernel_rfl
theorem intCells : Try.prog.cellsOf 3 = 1 := by kernel_rfl

theorem pair_cells {H : Type} {enc : TypeId × Value → H} {W : World} {fuel : Nat} {cs : List Value} {y : DataW H × List MemPlace} (hl : cs.length = 2) (h : DataW.trod enc Try.prog W 0 (fun _ => true) true fuel 39 cs = some y) :
    ∃ x : Int × Int, cs = [.int .i64 x.1, .int .i64 x.2] := by
  obtain ⟨xs, m', _, _, _, hxl, hxs⟩ := DataW.trod_array Try.underlying39 h
  rw [intCells] at hxs
  match cs, hl with
  | [c0, c1], _ =>
    have h0 := hxs 0 (by omega)
    have h1 := hxs 1 (by omega)
    rw [List.getElem?_eq_getElem (by omega)] at h0 h1
    simp at h0 h1
    obtain ⟨x, e0, _, _⟩ := DataW.trod_int Try.underlying3 h0
    obtain ⟨z, e1, _, _⟩ := DataW.trod_int Try.underlying3 h1
    simp at e0 e1
    exact ⟨(x, z), by rw [e0, e1]⟩

end Go.Proofs.Ytdgejcbnjelgkaa
