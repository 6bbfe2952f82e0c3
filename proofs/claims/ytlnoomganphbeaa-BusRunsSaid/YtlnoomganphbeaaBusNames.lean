/-
  The law BusNames returns true, and writes nothing that was there.
-/
import Derived.Test.YtlnoomganphbeaaBusOn
namespace Go.Proofs.Ytlnoomganphbeaa
open Go.RowKit

theorem made40965 (w : World) : (Instr.makeSlice 29 (.int .i64 40965) (.int .i64 40965)).run Try.prog w = .ok (.slice (some ⟨w.heap.size, 0, none⟩) 40965 40965) (w.alloc (.cells (u8s (zeros 40965)).toArray 5)) := bytes_made 40965 (by omega) w
theorem nil_bytes (w : World) (B : Nat) : Bytes w B none 0 [] := ⟨rfl, fun h => absurd h (by omega)⟩
theorem rom_nil (w : World) :
    Calls Try.prog 10 #[.slice none 0 0] w fun e w' => ∃ g, e = .returned (.pointer (some ⟨g, 0, none⟩)) ∧ Hid (Cart w w' g (romOf [])) :=
  (new_open none 0 0 [] w (nil_bytes _ _) (by omega) (by omega)).mono fun _ _ ⟨g, he, hg, hb, hr⟩ => ⟨g, he, hr, hb, hg⟩
theorem dump_on (W0 : World) (b g : Nat) (zs rs : List Int) (w : World) (h : Hid (On W0 w b g zs rs)) :
    Calls Try.prog 13 #[.pointer (some ⟨b, 0, none⟩)] w fun e w' => ∃ d, e = .returned (.slice (some ⟨d, 0, none⟩) 40964 40964) ∧ Hid (On W0 w' b g zs rs) ∧ Hid (w.heap.size ≤ d ∧ Whole w' d 5 (u8s zs)) ∧ Hid (Below w.heap.size w w') :=
  (dump_any b g zs w h.out.1).mono fun _ _ ⟨d, he, hd, hb, hw⟩ => ⟨d, he, h.out.next hb, ⟨hd, hw⟩, hb⟩

set_option maxRecDepth 100000 in
set_option maxHeartbeats 1600000 in
theorem names_any (w : World) : Calls Try.prog 3 #[] w fun e w' => e = .returned (.bool true) ∧ Below w.heap.size w w' := by
  have hmk := made40965
  go_enter Try.func3, Try.ntmps3
  go_wp2_with (first
    | (go_at_call 10; refine (rom_nil _).mono ?_; rintro e w2 ⟨g, rfl, H2⟩)
    | (go_at_call 9; refine (bus_cart w g _ _ H2).mono ?_; rintro e w3 ⟨b, rfl, H3, -⟩)
    | (go_at_call 11; refine (alive_any _).mono ?_; rintro e w4 ⟨rfl, hb4⟩; have H4 := Lib.hid (H3.out.next hb4.out); have H5 : Hid (On w (w4.alloc (.cells (u8s (zeros 40965)).toArray 5)) b g bus0 (romOf [])) := H4.out.next ((Below.refl _ _).alloc (Nat.le_refl _) _))
    | (go_at_call 12; refine (load_bad _ _ _ _ (by omega) _).mono ?_; rintro e w' ⟨rfl, rfl⟩)
    | (go_at_call 13; refine (dump_on w b g _ _ _ H5).mono ?_; rintro e w6 ⟨d, rfl, H6, -, -⟩))
  go_ret
  exact ⟨rfl, H6.out.2.2.1⟩

end Go.Proofs.Ytlnoomganphbeaa
