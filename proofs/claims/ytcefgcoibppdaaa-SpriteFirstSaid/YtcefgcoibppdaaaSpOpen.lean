/-
  A picture that came in.
-/
import Derived.Test.YtcefgcoibppdaaaTriOpen
namespace Go.Proofs.Ytcefgcoibppdaaa
open Go.ChangeShapes Go.WideShapes Go.ChangeAt Go.RowKit Go.Joins

theorem kBsT : Try.prog.cellsOf 22 = 1 := by kernel_rfl
theorem kTsT : Try.prog.cellsOf 29 = 1 := by kernel_rfl
theorem kPic : Try.prog.cellsOf 31 = 2 := by kernel_rfl
theorem byteRow_of {H : Type} {enc : TypeId × Value → H} {W : World} {fuel : Nat} {c : Value} {y : DataW H × List MemPlace} (hf : DataW.trod enc Try.prog W 0 (fun _ => true) true fuel 22 [c] = some y) :
    ∃ a n cap xs, c = .slice a n cap ∧ ByteRow W a n xs := by
  rcases open_ints Try.underlying22 Try.underlying5 (by kernel_rfl) hf with ⟨hcs, _⟩ | ⟨ad, l, cp, zs, hcs, _, hl, hm, hz, _, hcell, hwf⟩
  · simp at hcs
    subst hcs
    exact ⟨none, 0, 0, fun _ => 0, rfl, fun h => absurd h (by omega)⟩
  · simp at hcs
    subst hcs
    simp at hz
    refine ⟨some ad, l, cp, fun i => (zs.getD i 0).toNat, rfl, fun hn => ?_⟩
    have h0 := hcell 0 (by omega)
    obtain ⟨g, o, s⟩ := ad
    have hs : s = none := by simpa [Addr.add] using World.cell?_spot h0
    subst hs
    have hg : g < W.heap.size := by
      have := World.block_lt_of_cell? W _ h0
      simpa [Addr.add] using this
    refine ⟨g, o, rfl, hg, fun i hi => ?_⟩
    have hi' := hcell i (by omega)
    have ha : (⟨g, o, none⟩ : Addr).add i = ⟨g, o + i, none⟩ := by unfold Addr.add; split <;> simp_all
    have e : zs.getD i 0 = zs[i]'(by omega) := by simp [List.getD_eq_getElem?_getD, show i < zs.length by omega]
    have hb := bounds_u8 (hwf (zs[i]'(by omega)) (List.getElem_mem _))
    rw [ha] at hi'
    show W.cell? ⟨g, o + i, none⟩ = some (.int .u8 (((zs.getD i 0).toNat : Nat) : Int)) ∧ (zs.getD i 0).toNat < 256
    rw [e]
    refine ⟨?_, by omega⟩
    rw [hi', Int.toNat_of_nonneg (by omega), e]
theorem picture_in {H : Type} {enc : TypeId × Value → H} {W : World} {b0 : Nat} {v : Value} {d : DataW H} {q : List MemPlace} (hv : Value.okWide Try.prog W .any b0 31 v) (h : DataW.Trod enc Try.prog W 0 (fun _ => true) true 31 v d q) :
    ∃ a1 n1 c1 sp a2 n2 c2 tl, v = .agg #[.slice a1 n1 c1, .slice a2 n2 c2] ∧ TriRow W a1 n1 sp ∧ ByteRow W a2 n2 tl ∧ (a1 = none → n1 = 0 ∧ c1 = 0) := by
  obtain ⟨cs, rfl, hsz⟩ := okWide_struct Try.underlying31 hv
  rw [kPic] at hsz
  obtain ⟨l⟩ := cs
  match l, hsz with
  | [c0, c1], _ =>
    obtain ⟨fuel, hf⟩ := h
    obtain ⟨y0, y1, n, -, -, h0, h1⟩ := trod_struct2 Try.underlying31 hf
    simp [kBsT, kTsT, Value.cells] at h0 h1
    obtain ⟨a1, n1, k1, sp, rfl, r1, r0⟩ := tri_of h0
    obtain ⟨a2, n2, k2, tl, rfl, r2⟩ := byteRow_of h1
    exact ⟨a1, n1, k1, sp, a2, n2, k2, tl, rfl, r1, r2, r0⟩

end Go.Proofs.Ytcefgcoibppdaaa
