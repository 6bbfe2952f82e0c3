import Derived.Test.YtljjgakfnajifaaGreatDoorZNdRef3
import Derived.Handed
import Derived.HandedShaped
import Derived.LaidMore
import Derived.Lib.LaidTab
import Derived.MakeChecks
import Derived.ProofKit
import Derived.OpenShut
import Derived.ChangeOld
import Derived.ChangeArms
import Derived.Lib.SmallJoins
import Derived.Stop.Joined
namespace Go.Proofs.YtljjgakfnajifaaGreatDoor
open Go.ChangeShapes Go.WideShapes Go.ChangeAt Go.RowKit Go.Joins
set_option maxRecDepth 100000 in
theorem bytes_in {H : Type} {enc : TypeId × Value → H} {W : World} {b0 : Nat} {v : Value} {d : DataW H} {q : List MemPlace} (hv : Value.okWide Tryz.prog W .any b0 30 v) (h : DataW.Trod enc Tryz.prog W 0 (fun _ => true) true 30 v d q) :
    ∃ (bs : List Nat) (a : Option Addr) (c : Nat), v = .slice a bs.length c ∧ bs.length ≤ c ∧ (∀ i, bs.getD i 0 < 256) ∧ Rd W v (by8 bs) := by
  obtain ⟨a, n, cap, rfl⟩ := okWide_slice Tryz.underlying30 hv
  obtain ⟨fuel, hf⟩ := h
  rcases open_ints Tryz.underlying30 Tryz.underlying5 (by kernel_rfl) hf with ⟨hcs, _⟩ | ⟨ad, l, cp, zs, hcs, _, hl, hm, hz, _, hcell, hwf⟩
  · simp [Value.cells] at hcs
    obtain ⟨rfl, rfl, rfl⟩ := hcs
    exact ⟨[], none, 0, rfl, Nat.le_refl _, fun i => by simp, .inl ⟨rfl, rfl⟩⟩
  · simp [Value.cells] at hcs
    obtain ⟨rfl, rfl, rfl⟩ := hcs
    simp at hz
    have hbb : ∀ z ∈ zs, 0 ≤ z ∧ z ≤ 255 := fun z hz => bounds_u8 (hwf z hz)
    refine ⟨(zs.take n).map Int.toNat, some ad, cap, by simp [hz, Nat.min_eq_left hl], by simp [hz, Nat.min_eq_left hl]; exact hl, ?_, ?_⟩
    · intro i
      rw [List.getD_eq_getElem?_getD, List.getElem?_map]
      cases hq : (zs.take n)[i]? with
      | none => simp
      | some z =>
        have hzm : z ∈ zs := List.mem_of_mem_take (List.mem_of_getElem? hq)
        have := hbb z hzm
        show z.toNat < 256
        omega
    · by_cases hn : n = 0
      · subst hn
        exact .inr (.inl ⟨ad, cap, rfl, by simp [by8]⟩)
      · have h0 := hcell 0 (by omega)
        obtain ⟨g, o, s⟩ := ad
        have hs : s = none := by simpa [Addr.add] using World.cell?_spot h0
        subst hs
        have hg : g < W.heap.size := by
          have := World.block_lt_of_cell? W _ h0
          simpa [Addr.add] using this
        refine .inr (.inr ⟨g, o, cap, by simp [by8, hz, Nat.min_eq_left hl], hg, fun j u hu => ?_⟩)
        have ha : (⟨g, o, none⟩ : Addr).add j = ⟨g, o + j, none⟩ := by unfold Addr.add; split <;> simp_all
        simp only [by8, List.getElem?_map, Option.map_eq_some_iff] at hu
        obtain ⟨b, ⟨z, hz1, rfl⟩, rfl⟩ := hu
        have hj : j < zs.length := by
          have := (List.getElem?_eq_some_iff.1 hz1).1
          rw [List.length_take] at this
          omega
        have hi' := hcell j hj
        rw [ha] at hi'
        rw [hi']
        have hz2 : zs[j]? = some z := by
          rw [List.getElem?_take] at hz1
          split at hz1
          · exact hz1
          · cases hz1
        have hb := hbb z (List.mem_of_getElem? hz2)
        rw [List.getD_eq_getElem?_getD, hz2, Option.getD_some]
        show some (Value.int .u8 z) = some (.int .u8 ((z.toNat : Nat) : Int))
        rw [Int.toNat_of_nonneg hb.1]
end Go.Proofs.YtljjgakfnajifaaGreatDoor
