/-
  A line of sprites as plain data: 256 colors, and two words.
-/
import Derived.Test.YtcefgcoibppdaaaVram
import Derived.Test.YtcefgcoibppdaaaCells
namespace Go.Proofs.Ytcefgcoibppdaaa
open Go.RowKit

def rcells (f : Nat → Nat) (o c : Bool) : List Value := (List.range 256).map (fun x => .int .u8 (f x : Int)) ++ [.bool o, .bool c]
abbrev rowV (f : Nat → Nat) (o c : Bool) : Value := .agg (rcells f o c).toArray
theorem rcells_length (f : Nat → Nat) (o c : Bool) : (rcells f o c).length = 258 := by simp [rcells]
theorem rcells_color (f : Nat → Nat) (o c : Bool) (x : Nat) (h : x < 256) : (rcells f o c)[x]? = some (.int .u8 (f x : Int)) := by
  unfold rcells
  rw [List.getElem?_append_left (by simpa using h)]
  simp [h]
theorem rcells_over (f : Nat → Nat) (o c : Bool) : (rcells f o c)[256]? = some (.bool o) := by
  unfold rcells
  rw [List.getElem?_append_right (by simp)]
  simp
theorem rcells_meets (f : Nat → Nat) (o c : Bool) : (rcells f o c)[257]? = some (.bool c) := by
  unfold rcells
  rw [List.getElem?_append_right (by simp)]
  simp
theorem rcells_one (f : Nat → Nat) (o c : Bool) : (rcells f o c).all (·.oneCell') = true := by
  rw [List.all_eq_true]
  intro v hv
  unfold rcells at hv
  rcases List.mem_append.1 hv with h | h
  · obtain ⟨x, _, rfl⟩ := List.mem_map.1 h; rfl
  · simp at h
    rcases h with rfl | rfl <;> rfl
theorem aggRow : Agg Try.prog 39 258 := ⟨⟨_, Try.underlying39, rfl⟩, by kernel_rfl⟩
theorem zeroRow : Zero Try.prog 39 (rcells (fun _ => 0) false false) := ⟨rowV (fun _ => 0) false false, fun _ => by kernel_rfl, rfl⟩

end Go.Proofs.Ytcefgcoibppdaaa
