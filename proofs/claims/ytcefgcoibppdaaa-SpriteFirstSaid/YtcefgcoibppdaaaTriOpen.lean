/-
  A slice of threes of bytes that came in; a picture that came in.
-/
import Derived.Test.YtcefgcoibppdaaaSpPic
import Derived.Test.YtcefgcoibppdaaaArrays
import Derived.ProofKit
import Derived.OpenShut
import Derived.ChangeOld
import Derived.Below
import Derived.Lib.SmallJoins
import Derived.ChangeArms
namespace Go.Proofs.Ytcefgcoibppdaaa
open Go.ChangeShapes Go.WideShapes Go.ChangeAt Go.RowKit Go.Joins

theorem kU8T : Try.prog.cellsOf 5 = 1 := by kernel_rfl
theorem k3T : Try.prog.cellsOf 36 = 3 := by kernel_rfl
def byteIn (W : World) (g o : Nat) : Nat := match W.cell? ⟨g, o, none⟩ with | some (.int _ z) => z.toNat | _ => 0
theorem tri_of {H : Type} {enc : TypeId × Value → H} {W : World} {fuel : Nat} {c : Value} {y : DataW H × List MemPlace} (hf : DataW.trod enc Try.prog W 0 (fun _ => true) true fuel 29 [c] = some y) :
    ∃ a n cap sp, c = .slice a n cap ∧ TriRow W a n sp ∧ (a = none → n = 0 ∧ cap = 0) := by
  rcases DataW.trod_slice Try.underlying29 hf with ⟨hcs, _⟩ | ⟨ad, l, cp, elems, rest, m, _, hcs, _, _, _, _, hel, hall, _, _⟩
  · simp at hcs
    subst hcs
    exact ⟨none, 0, 0, fun _ _ => 0, rfl, TriRow.nil _ _ _, fun _ => ⟨rfl, rfl⟩⟩
  · simp at hcs
    subst hcs
    have key : ∀ i, i < l → ∀ k, k < 3 → ∃ z : Int, W.cell? (ad.add (i * 3 + k)) = some (.int .u8 z) ∧ (Lit.int .u8 z).wf = true := by
      intro i hi k hk
      have h := hall i hi
      rw [k3T, List.getElem?_eq_getElem (by omega), Option.bind_eq_some_iff] at h
      obtain ⟨cs, hc, ht⟩ := h
      obtain ⟨xs, m', _, _, _, hxl, hxs⟩ := DataW.trod_array Try.underlying36 ht
      have hlen : cs.length = 3 := (World.cells?_some hc).2.1
      obtain ⟨zs, hz, hw⟩ := ints_of_cells Try.underlying5 kU8T cs (fun j hj => by
        have hj' : j < 3 := by omega
        have := hxs j hj'
        rw [List.getElem?_eq_getElem (by omega)] at this
        exact ⟨_, this⟩)
      have h2 := (World.cells?_some hc).2.2 k hk
      have hzl : zs.length = 3 := by rw [hz] at hlen; simpa using hlen
      refine ⟨zs[k]'(by omega), ?_, hw _ (List.getElem_mem _)⟩
      have e : ((ad.add (i * 3)).add k) = ad.add (i * 3 + k) := by unfold Addr.add; split <;> split <;> simp_all <;> omega
      rw [← e, h2, hz]
      simp [show k < zs.length by omega]
    refine ⟨some ad, l, cp, fun i k => byteIn W ad.block (ad.off + i * 3 + k), rfl, fun hn => ?_, fun h => by cases h⟩
    obtain ⟨z0, h0, _⟩ := key 0 hn 0 (by omega)
    obtain ⟨g, o, s⟩ := ad
    have hs : s = none := by simpa [Addr.add] using World.cell?_spot h0
    subst hs
    have hg : g < W.heap.size := by
      have := World.block_lt_of_cell? W _ h0
      simpa [Addr.add] using this
    refine ⟨g, o, rfl, hg, fun i hi k hk => ?_⟩
    obtain ⟨z, hz, hw⟩ := key i hi k hk
    have ha : (⟨g, o, none⟩ : Addr).add (i * 3 + k) = ⟨g, o + i * 3 + k, none⟩ := by unfold Addr.add; split <;> simp_all <;> omega
    rw [ha] at hz
    have hb := bounds_u8 hw
    show W.cell? ⟨g, o + i * 3 + k, none⟩ = some (.int .u8 ((byteIn W g (o + i * 3 + k) : Nat) : Int)) ∧ byteIn W g (o + i * 3 + k) < 256
    unfold byteIn
    rw [hz]
    refine ⟨?_, by show z.toNat < 256; omega⟩
    show _ = some (Value.int .u8 ((z.toNat : Nat) : Int))
    rw [Int.toNat_of_nonneg (by omega)]

end Go.Proofs.Ytcefgcoibppdaaa
