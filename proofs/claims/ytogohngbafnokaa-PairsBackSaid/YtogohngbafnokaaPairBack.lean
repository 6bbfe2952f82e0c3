/-
  The law PairsBack returns true for any two numbers and any flags, and writes nothing.
-/
import Derived.Test.YtogohngbafnokaaPairNames
namespace Go.Proofs.Ytogohngbafnokaa
open Go.RowKit

theorem wone (a b k s p : Nat) (hs : wAddV a b 0 = s) (hp : wAddV a b k = p) : (s + k) % 65536 = p := by
  have h1 : (a + b + 0) % 65536 = s := hs
  have h2 : (a + b + k) % 65536 = p := hp
  omega

set_option maxHeartbeats 1600000 in
theorem back_any (a b f : Nat) (ha : a < 65536) (hb : b < 65536) (hf : f < 256) (w : World) :
    Calls Try.prog 6 #[.int .u16 (a : Int), .int .u16 (b : Int), .int .u8 (f : Int)] w fun e w' => e = .returned (.bool true) ∧ Below w.heap.size w w' := by
  obtain ⟨k, hk⟩ : ∃ k, Hid (f % 2 = k) := ⟨_, rfl⟩
  have k1 : k ≤ 1 := by have := hk.out; omega
  obtain ⟨p, hp⟩ : ∃ p, Hid (wAddV a b k = p) := ⟨_, rfl⟩
  have p1 : p < 65536 := by rw [← hp.out]; exact wAddV_lt _ _ _
  obtain ⟨x, hx⟩ : ∃ x, Hid (wAdcF a b k = x) := ⟨_, rfl⟩
  have x1 : x < 256 := by rw [← hx.out]; exact wAdcF_lt _ _ _
  have hp2 : Hid (wAddV b a k = p) := (wadd_swap a b k).1.trans hp.out
  have hx2 : Hid (wAdcF b a k = x) := (wadd_swap a b k).2.trans hx.out
  have hr : Hid (wSubV p b k = a) := wadd_sub a b k p ha hb k1 hp.out
  obtain ⟨i, hi⟩ : ∃ i, Hid (wSbcF p b k = i) := ⟨_, rfl⟩
  obtain ⟨s, hs⟩ : ∃ s, Hid (wAddV a b 0 = s) := ⟨_, rfl⟩
  have s1 : s < 65536 := by rw [← hs.out]; exact wAddV_lt _ _ _
  obtain ⟨z, hz⟩ : ∃ z, Hid (wAddF a b f = z) := ⟨_, rfl⟩
  have z1 : z < 256 := by rw [← hz.out]; exact wAddF_lt _ _ _
  have e1 := and_one f k hf hk
  have e2 : IntKind.u16.wrap ((s : Int) + (k : Int)) = (p : Int) := by
    have := wone a b k s p hs.out hp.out
    rw [IntKind.wrap_u16]
    omega
  have hkeep := wkeep a b f z hf hz.out
  have e3 : bits .and .u8 (bits .xor .u8 (z : Int) (f : Int)) 196 = 0 := by
    rw [u8_xor_nat z f z1 hf, u8_and _ 196 (by omega) (by have := xor8 z1 hf; omega) (by omega) (by omega)]
    exact congrArg (fun n : Nat => (n : Int)) hkeep.1
  have e4 : bits .and .u8 (z : Int) 2 = 0 := by
    rw [u8_and z 2 (by omega) (by omega) (by omega) (by omega)]
    exact congrArg (fun n : Nat => (n : Int)) hkeep.2
  have e5 : bits .and .u8 (x : Int) 2 = 0 := by
    rw [u8_and x 2 (by omega) (by omega) (by omega) (by omega)]
    exact congrArg (fun n : Nat => (n : Int)) (wadc_n a b k x hx.out)
  clear hkeep
  go_enter Try.func6, Try.ntmps6
  go_wp2_with (first
    | (go_at_call 10; refine (pairsAlive_any _).mono ?_; rintro e w' ⟨rfl, rfl⟩)
    | (go_at_call 8; first | ((with_reducible refine (adc_at a b f k p x ha hb hf hk hp hx _).mono ?_); rintro e w' ⟨rfl, rfl⟩) | ((with_reducible refine (adc_at b a f k p x hb ha hf hk hp2 hx2 _).mono ?_); rintro e w' ⟨rfl, rfl⟩))
    | (go_at_call 9; (with_reducible refine (sbc_at p b f k a i p1 hb hf hk hr hi _).mono ?_); rintro e w' ⟨rfl, rfl⟩)
    | (go_at_call 11; (with_reducible refine (add_at a b f s z ha hb hf hs hz _).mono ?_); rintro e w' ⟨rfl, rfl⟩))
  go_ret
  exact ⟨rfl, Below.refl _ _⟩

end Go.Proofs.Ytogohngbafnokaa
