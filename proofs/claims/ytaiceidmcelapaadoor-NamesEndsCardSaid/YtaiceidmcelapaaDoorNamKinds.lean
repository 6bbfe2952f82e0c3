/-
  What the types are that package names works with, and where the program's start laid its tables.
-/
import Derived.Test.YtaiceidmcelapaaDoorOwn
import Derived.Test.YtaiceidmcelapaaDoorQuiet
import Derived.Test.YtaiceidmcelapaaDoorIndex
import Derived.Test.YtaiceidmcelapaaDoorNamSpec
import Derived.Lib.LaidTab
import Derived.Lib.ItoaMem
import Derived.Lib.AppendIntMem
import Derived.Laws.BitsAll
import Derived.Deep.Cut
import Derived.Deep.CutRange
namespace Go.Proofs.YtaiceidmcelapaaDoor
open Go.RowKit

theorem aggP : Agg Tryd.prog 40 5 := ⟨⟨_, Tryd.underlying40, rfl⟩, by kernel_rfl⟩
theorem aggSpot : Agg Tryd.prog 32 3 := ⟨⟨_, Tryd.underlying32, rfl⟩, by kernel_rfl⟩
theorem oneInt : One Tryd.prog 3 := ⟨⟨_, Tryd.underlying3, rfl⟩, by kernel_rfl⟩
theorem oneBool : One Tryd.prog 4 := ⟨⟨_, Tryd.underlying4, rfl⟩, by kernel_rfl⟩
theorem oneU8 : One Tryd.prog 5 := ⟨⟨_, Tryd.underlying5, rfl⟩, by kernel_rfl⟩
theorem oneStr : One Tryd.prog 9 := ⟨⟨_, Tryd.underlying9, rfl⟩, by kernel_rfl⟩
theorem zeroP : Zero Tryd.prog 40 [.int .i64 0, .int .i64 0, .int .i64 0, .int .i64 0, .int .i64 0] := ⟨.agg #[.int .i64 0, .int .i64 0, .int .i64 0, .int .i64 0, .int .i64 0], fun _ => by kernel_rfl, rfl⟩
theorem zeroSpot : Zero Tryd.prog 32 [.int .i64 0, .int .i64 0, .int .i64 0] := ⟨.agg #[.int .i64 0, .int .i64 0, .int .i64 0], fun _ => by kernel_rfl, rfl⟩

theorem str_append (a b : Tx) : (⟨a.toArray⟩ : ByteArray) ++ ⟨b.toArray⟩ = ⟨(a ++ b).toArray⟩ := by
  apply ByteArray.ext
  simp

/-- the tables of texts, by the number of the variable -/
def tables : List (Nat × List Tx) := [(0, t_singles), (4, t_wides), (8, t_stacked), (7, t_conditions), (1, t_eightSums), (2, t_eightTurns), (14, t_starts), (5, t_places), (6, t_quicks), (3, t_bitActs), (9, t_modes), (10, t_oddMoves), (12, t_manyActs), (11, t_manySteps)]
/-- the name of the table of powers, off the row -/
def powName : String := (Rows.namesAllRow.laid.getD 2 ("", .agg [])).1
/-- the tables lie where the program's start laid them -/
structure Tabs (w : World) : Prop where
  str : ∀ e ∈ tables, ∀ i < e.2.length, w.cell? ⟨e.1, i, none⟩ = some (.string ⟨(sg e.2 i).toArray⟩)
  pow : Lib.TabIs Tryd.prog w powName .u64 Lib.pow10Tab
  max : ∃ m, w.cell? ⟨13, 0, none⟩ = some (.int .i64 m)
theorem Tabs.under {w w' : World} (h : Tabs w) (hb : Below w.heap.size w w') : Tabs w' := by
  refine ⟨fun e he i hi => ?_, Lib.tabBelow_of_tabIs h.pow w' hb, ?_⟩
  · have c := h.str e he i hi
    exact (hb.cell (p := ⟨e.1, i, none⟩) (block_lt_of_cell c)).trans c
  · obtain ⟨m, c⟩ := h.max
    exact ⟨m, (hb.cell (p := ⟨13, 0, none⟩) (block_lt_of_cell c)).trans c⟩
theorem Own.fin {W0 w : World} {l : List (Nat × TypeId × List Value)} (h : Hid (Own W0 w l)) : Below W0.heap.size W0 w := h.out.below
theorem Tabs.own {w0 w : World} {l : List (Nat × TypeId × List Value)} (h : Hid (Tabs w0)) (HM : Hid (Own w0 w l)) : Tabs w := h.out.under HM.out.below

end Go.Proofs.YtaiceidmcelapaaDoor
