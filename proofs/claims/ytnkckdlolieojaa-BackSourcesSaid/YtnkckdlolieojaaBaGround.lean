/-
  A ground as plain data: 256 colors, and what is in front.
-/
import Derived.Test.YtnkckdlolieojaaEqSelf
import Derived.Test.YtnkckdlolieojaaVram
import Derived.Test.YtnkckdlolieojaaCells
namespace Go.Proofs.Ytnkckdlolieojaa
open Go.RowKit

def gcells (f : Nat → Nat) (g : Nat → Bool) : List Value := (List.range 256).map (fun x => .int .u8 (f x : Int)) ++ (List.range 256).map fun x => .bool (g x)
abbrev gV (f : Nat → Nat) (g : Nat → Bool) : Value := .agg (gcells f g).toArray
theorem gcells_length (f : Nat → Nat) (g : Nat → Bool) : (gcells f g).length = 512 := by simp [gcells]
theorem gcells_color (f : Nat → Nat) (g : Nat → Bool) (x : Nat) (h : x < 256) : (gcells f g)[x]? = some (.int .u8 (f x : Int)) := by
  unfold gcells
  rw [List.getElem?_append_left (by simpa using h)]
  simp [h]
theorem gcells_front (f : Nat → Nat) (g : Nat → Bool) (x : Nat) (h : x < 256) : (gcells f g)[256 + x]? = some (.bool (g x)) := by
  unfold gcells
  rw [List.getElem?_append_right (by simp)]
  simp [h]
theorem gcells_ext {f f' : Nat → Nat} {g g' : Nat → Bool} (h1 : ∀ x, x < 256 → f x = f' x) (h2 : ∀ x, x < 256 → g x = g' x) : gcells f g = gcells f' g' := by
  unfold gcells
  congr 1
  · exact List.map_congr_left fun x hx => by rw [h1 x (List.mem_range.1 hx)]
  · exact List.map_congr_left fun x hx => by rw [h2 x (List.mem_range.1 hx)]
theorem aggG : Agg Try.prog 29 512 := ⟨⟨_, Try.underlying29, rfl⟩, by kernel_rfl⟩
theorem zeroG : Zero Try.prog 29 (gcells (fun _ => 0) (fun _ => false)) := ⟨gV (fun _ => 0) (fun _ => false), fun _ => by kernel_rfl, rfl⟩
theorem built_g (w : World) : (Instr.build 29 #[]).run Try.prog w = .ok (gV (fun _ => 0) (fun _ => false)) w := by kernel_rfl
theorem gext1 (f : Nat → Nat) (g : Nat → Bool) (i : Nat) (h : i < 256) : ((gcells f g).toArray.extract 0 (0 + 256))[i]? = some (.int .u8 (f i : Int)) := by
  rw [Array.getElem?_extract]
  have := gcells_color f g i h
  have hl := gcells_length f g
  simp [hl, h, this]
theorem gext2 (f : Nat → Nat) (g : Nat → Bool) (i : Nat) (h : i < 256) : ((gcells f g).toArray.extract 256 (256 + 256))[i]? = some (.bool (g i)) := by
  rw [Array.getElem?_extract]
  have := gcells_front f g i h
  have hl := gcells_length f g
  simp [hl, h, this]
theorem same_g (f_ : Nat → Nat) (g : Nat → Bool) (w : World) : (Op.equalIn 10000 29 (gV f_ g) (gV f_ g)).run Try.prog w = .ok true w := by
  obtain ⟨i1, hi1⟩ := Option.isSome_iff_exists.1 (show (Try.prog.info? 26).isSome = true by kernel_rfl)
  have hc1 : Try.prog.cellsOf 26 = 256 := by kernel_rfl
  obtain ⟨i2, hi2⟩ := Option.isSome_iff_exists.1 (show (Try.prog.info? 27).isSome = true by kernel_rfl)
  have hc2 : Try.prog.cellsOf 27 = 256 := by kernel_rfl
  obtain ⟨i3, hi3⟩ := Option.isSome_iff_exists.1 (show (Try.prog.info? 5).isSome = true by kernel_rfl)
  obtain ⟨i4, hi4⟩ := Option.isSome_iff_exists.1 (show (Try.prog.info? 4).isSome = true by kernel_rfl)
  have hf : (Try.prog.fieldsOf 29).toList.map (fun f => (f.type, f.offset)) = [(26, 0), (27, 256)] := by kernel_rfl
  refine self_struct (d := 9999) _ (by kernel_rfl) (by kernel_rfl) (fun f hm => ?_) w
  have hm' : (f.type, f.offset) ∈ (Try.prog.fieldsOf 29).toList.map (fun f => (f.type, f.offset)) := List.mem_map_of_mem hm
  rw [hf] at hm'
  rcases List.mem_cons.1 hm' with h | h
  · obtain ⟨h1, h2⟩ := Prod.mk.inj h
    rw [h1, h2]
    exact ⟨_, part_array _ 0 256 Try.underlying26 hi1 hc1, self_array _ Try.underlying26 (by kernel_rfl) hi3 (by kernel_rfl) fun i hi => ⟨_, gext1 f_ g i hi, self_u8 _ Try.underlying5 _⟩⟩
  · obtain ⟨h1, h2⟩ := Prod.mk.inj (List.mem_singleton.1 h)
    rw [h1, h2]
    exact ⟨_, part_array _ 256 256 Try.underlying27 hi2 hc2, self_array _ Try.underlying27 (by kernel_rfl) hi4 (by kernel_rfl) fun i hi => ⟨_, gext2 f_ g i hi, self_bool _ Try.underlying4 _⟩⟩

end Go.Proofs.Ytnkckdlolieojaa
