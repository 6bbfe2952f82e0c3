/-
  The law PairsParts returns true for any number and any byte, and writes nothing.
-/
import Derived.Test.YtogohngbafnokaaPairNames
import Derived.Test.YtogohngbafnokaaPairRef
namespace Go.Proofs.Ytogohngbafnokaa
open Go.RowKit

set_option maxHeartbeats 1600000 in
theorem parts_any (v b : Nat) (hv : v < 65536) (hb : b < 256) (w : World) :
    Calls Try.prog 5 #[.int .u16 (v : Int), .int .u8 (b : Int)] w fun e w' => e = .returned (.bool true) ∧ Below w.heap.size w w' := by
  obtain ⟨h, hh⟩ : ∃ h, Hid (wHigh v = h) := ⟨_, rfl⟩
  obtain ⟨l, hl⟩ : ∃ l, Hid (v % 256 = l) := ⟨_, rfl⟩
  have h1 : h < 256 := by rw [← hh.out]; exact wHigh_lt _ hv
  have l1 : l < 256 := by have := hl.out; omega
  have e1 : (h : Int) * 256 + (l : Int) = (v : Int) := by
    have e : v / 256 = h := hh.out
    have := hl.out
    omega
  have hj : Hid (h * 256 + l = v) := by show h * 256 + l = v; omega
  obtain ⟨u, hu⟩ : ∃ u, Hid (b * 256 + l = u) := ⟨_, rfl⟩
  obtain ⟨r, hr⟩ : ∃ r, Hid (wMove v b = r) := ⟨_, rfl⟩
  go_enter Try.func5, Try.ntmps5
  go_wp2_with (first
    | (go_at_call 10; refine (pairsAlive_any _).mono ?_; rintro e w' ⟨rfl, rfl⟩)
    | (go_at_call 15; (with_reducible refine (split_at v h l hv hh hl _).mono ?_); rintro e w' ⟨rfl, rfl⟩)
    | (go_at_call 16; first | ((with_reducible refine (join_at h l v h1 l1 hj _).mono ?_); rintro e w' ⟨rfl, rfl⟩) | ((with_reducible refine (join_at b l u hb l1 hu _).mono ?_); rintro e w' ⟨rfl, rfl⟩))
    | (go_at_call 17; (with_reducible refine (rjoin_at b l u hb l1 hu _).mono ?_); rintro e w' ⟨rfl, rfl⟩)
    | (go_at_call 18; (with_reducible refine (move_at v b r hv hb hr _).mono ?_); rintro e w' ⟨rfl, rfl⟩)
    | (go_at_call 19; (with_reducible refine (rmove_at v b r hv hb hr _).mono ?_); rintro e w' ⟨rfl, rfl⟩))
  go_ret
  exact ⟨rfl, Below.refl _ _⟩

end Go.Proofs.Ytogohngbafnokaa
