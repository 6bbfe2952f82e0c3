/-
  Package bus's New: a bus of a cartridge, all zeros but the mapper.
-/
import Derived.Test.YtlnoomganphbeaaBusMake
import Derived.Test.YtlnoomganphbeaaRomAt
namespace Go.Proofs.Ytlnoomganphbeaa
open Go.RowKit

/-- the operation that builds a bus, met as one -/
theorem at_build_bus {w : World} {ops : Array Oper} {rest : List Oper} {o : Oper} {a : Act} {Q : Exit → Act → World → Prop} (hgd : o.guard = none) (x y : Operand)
    (ho : o.op = .build 61 #[(0, x), (3, y)]) (p : Option Addr) (m0 m1 m2 m3 : Int) (hx : a.eval x = .pointer p) (hy : a.eval y = .agg #[.int .u8 m0, .int .u8 m1, .int .u8 m2, .int .u8 m3])
    (h : wpList Try.prog ops Q rest (a.put o.dst (.agg (busCells (.pointer p) (zeros 40960 ++ [m0, m1, m2, m3])))) w) : wpList Try.prog ops Q (o :: rest) a w := by
  refine wpList_plain hgd fun K hK => ?_
  have hrun := bus_build p m0 m1 m2 m3 w
  unfold Oper.wp
  generalize busCells (.pointer p) (zeros 40960 ++ [m0, m1, m2, m3]) = B at hrun h
  simp only [execOp, ho, List.map_toArray, List.map_cons, List.map_nil, hx, hy]
  simp only [Sem.run_bind, hrun, Result.andThen_ok]
  exact hK _ _ h

/-- a bus of the cartridge at g, with these bytes -/
def BusAt (w : World) (b g : Nat) (zs : List Int) : Prop := Whole w b 61 (.pointer (some ⟨g, 0, none⟩) :: u8s zs) ∧ zs.length = 40964 ∧ Oct zs
def bus0 : List Int := zeros 40960 ++ [0, 0, 1, 2]
theorem bus0_length : bus0.length = 40964 := by rw [bus0, List.length_append, zeros_length]; rfl
theorem bus0_oct : Oct bus0 := (Oct.zeros _).append (by intro z hz; simp at hz; omega)

theorem bnew_any (g : Nat) (w : World) :
    Calls Try.prog 9 #[.pointer (some ⟨g, 0, none⟩)] w fun e w' => ∃ b, e = .returned (.pointer (some ⟨b, 0, none⟩)) ∧ w.heap.size ≤ b ∧ Below w.heap.size w w' ∧ BusAt w' b g bus0 := by
  have F : Hid (BusAt (w.alloc (.cells (busCells (.pointer (some ⟨g, 0, none⟩)) (zeros 40960 ++ [0, 0, 1, 2])) 61)) w.heap.size g bus0) := ⟨Whole.fresh w _ _, bus0_length, bus0_oct⟩
  have H : Hid (Below w.heap.size w (w.alloc (.cells (busCells (.pointer (some ⟨g, 0, none⟩)) (zeros 40960 ++ [0, 0, 1, 2])) 61))) := (Below.refl _ _).alloc (Nat.le_refl _) _
  generalize hB : busCells (.pointer (some ⟨g, 0, none⟩)) (zeros 40960 ++ [0, 0, 1, 2]) = B at F H
  have HB := Lib.hid hB
  clear hB
  go_enter Try.func9, Try.ntmps9
  go_wp2_with ((with_reducible refine at_build_bus rfl (.tmp 3) (.tmp 4) rfl (some ⟨g, 0, none⟩) 0 0 1 2 rfl rfl ?_); rw [HB.out])
  go_ret
  exact ⟨_, rfl, Nat.le_refl _, H.out, F.out⟩

end Go.Proofs.Ytlnoomganphbeaa
