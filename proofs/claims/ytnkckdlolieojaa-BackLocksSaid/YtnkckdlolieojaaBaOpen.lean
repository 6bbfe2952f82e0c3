/-
  An image that came in: two slices of bytes, two numbers; and two numbers in a row.
-/
import Derived.Test.YtnkckdlolieojaaByteRow
import Derived.ProofKit
import Derived.OpenShut
import Derived.ChangeOld
import Derived.Below
import Derived.Lib.SmallJoins
import Derived.ChangeArms
import Derived.Test.YtnkckdlolieojaaArrays
namespace Go.Proofs.Ytnkckdlolieojaa
open Go.ChangeShapes Go.WideShapes Go.ChangeAt Go.RowKit Go.Joins

theorem kIntT : Try.prog.cellsOf 3 = 1 := by kernel_rfl
theorem kBsT : Try.prog.cellsOf 31 = 1 := by kernel_rfl
theorem kImg : Try.prog.cellsOf 33 = 4 := by kernel_rfl
theorem byteRow_of {H : Type} {enc : TypeId × Value → H} {W : World} {fuel : Nat} {c : Value} {y : DataW H × List MemPlace} (hf : DataW.trod enc Try.prog W 0 (fun _ => true) true fuel 31 [c] = some y) :
    ∃ a n cap xs, c = .slice a n cap ∧ ByteRow W a n xs := by
  rcases open_ints Try.underlying31 Try.underlying5 (by kernel_rfl) hf with ⟨hcs, _⟩ | ⟨ad, l, cp, zs, hcs, _, hl, hm, hz, _, hcell, hwf⟩
  · simp at hcs
    subst hcs
    exact ⟨none, 0, 0, fun _ => 0, rfl, fun h => absurd h (by omega)⟩
  · simp at hcs
    subst hcs
    simp at hz
    refine ⟨some ad, l, cp, fun i => (zs.getD i 0).toNat, rfl, fun hn => ?_⟩
    have h0 := hcell 0 (by omega)
    obtain ⟨g, o, s⟩ := ad
    have hs : s = none := by simpa [Addr.add] using World.cell?_spot h0
    subst hs
    have hg : g < W.heap.size := by
      have := World.block_lt_of_cell? W _ h0
      simpa [Addr.add] using this
    refine ⟨g, o, rfl, hg, fun i hi => ?_⟩
    have hi' := hcell i (by omega)
    have ha : (⟨g, o, none⟩ : Addr).add i = ⟨g, o + i, none⟩ := by unfold Addr.add; split <;> simp_all
    have e : zs.getD i 0 = zs[i]'(by omega) := by simp [List.getD_eq_getElem?_getD, show i < zs.length by omega]
    have hb := bounds_u8 (hwf (zs[i]'(by omega)) (List.getElem_mem _))
    rw [ha] at hi'
    show W.cell? ⟨g, o + i, none⟩ = some (.int .u8 (((zs.getD i 0).toNat : Nat) : Int)) ∧ (zs.getD i 0).toNat < 256
    rw [e]
    refine ⟨?_, by omega⟩
    rw [hi', Int.toNat_of_nonneg (by omega), e]
theorem image_in {H : Type} {enc : TypeId × Value → H} {W : World} {b0 : Nat} {v : Value} {d : DataW H} {q : List MemPlace} (hv : Value.okWide Try.prog W .any b0 33 v) (h : DataW.Trod enc Try.prog W 0 (fun _ => true) true 33 v d q) :
    ∃ a1 n1 c1 xs1 a2 n2 c2 xs2 many at_, v = .agg #[.slice a1 n1 c1, .slice a2 n2 c2, .int .i64 many, .int .i64 at_] ∧ ByteRow W a1 n1 xs1 ∧ ByteRow W a2 n2 xs2 := by
  obtain ⟨cs, rfl, hsz⟩ := okWide_struct Try.underlying33 hv
  rw [kImg] at hsz
  obtain ⟨l⟩ := cs
  match l, hsz with
  | [c0, c1, c2, c3], _ =>
    obtain ⟨fuel, hf⟩ := h
    obtain ⟨y0, y1, y2, y3, n, -, -, h0, h1, h2, h3⟩ := trod_struct4 Try.underlying33 hf
    simp [kBsT, kIntT, Value.cells] at h0 h1 h2 h3
    obtain ⟨a1, n1, k1, xs1, rfl, r1⟩ := byteRow_of h0
    obtain ⟨a2, n2, k2, xs2, rfl, r2⟩ := byteRow_of h1
    obtain ⟨m, e2, -, -⟩ := DataW.trod_int Try.underlying3 h2
    obtain ⟨t, e3, -, -⟩ := DataW.trod_int Try.underlying3 h3
    simp only [List.cons.injEq, and_true] at e2 e3
    subst e2 e3
    exact ⟨a1, n1, k1, xs1, a2, n2, k2, xs2, m, t, rfl, r1, r2⟩

end Go.Proofs.Ytnkckdlolieojaa
