/-
  The small functions of package rom, each by a contract: banksFor (the least power of two banks that has room), Banks, sumOf (the sum over bytes). No condition but the ranges that are named in each.
-/
import Derived.Test.YtlnoomganphbeaaRows
import Derived.WalkKit
import Derived.WalkSpells
import Derived.WalkLawsBesides
import Derived.Lib.Hide
namespace Go.Proofs.Ytlnoomganphbeaa
open Go.RowKit

/-- how many banks so many bytes take -/
def bk (n : Int) : Int :=
  if n ≤ 16384 then 1 else if n ≤ 32768 then 2 else if n ≤ 65536 then 4 else if n ≤ 131072 then 8 else if n ≤ 262144 then 16
  else if n ≤ 524288 then 32 else if n ≤ 1048576 then 64 else if n ≤ 2097152 then 128 else 256

def BkAt (n b : Int) : Prop := (b = 1 ∨ b = 2 ∨ b = 4 ∨ b = 8 ∨ b = 16 ∨ b = 32 ∨ b = 64 ∨ b = 128 ∨ b = 256) ∧ (b = 1 ∨ b * 8192 < n)

theorem BkAt.start (n : Int) : BkAt n 1 := ⟨by omega, by omega⟩
theorem BkAt.bd {n b : Int} (h : BkAt n b) : 1 ≤ b ∧ b ≤ 256 := by unfold BkAt at h; omega
theorem BkAt.step {n b : Int} (h : BkAt n b) (hn : n ≤ 4194304) (hb : b * 16384 < n) : BkAt n (b * 2) ∧ b ≤ 128 := by unfold BkAt at *; omega
theorem BkAt.fin {n b : Int} (h : BkAt n b) (hb : n ≤ b * 16384) : b = bk n := by
  obtain ⟨h1, h2⟩ := h
  unfold bk
  rcases h1 with rfl | rfl | rfl | rfl | rfl | rfl | rfl | rfl | rfl <;> (repeat' split) <;> omega

set_option maxHeartbeats 400000 in
theorem banksFor_any (n : Int) (w : World) (_h0 : 0 ≤ n) (h1 : n ≤ 4194304) :
    Calls Try.prog 26 #[.int .i64 n] w fun e w' => e = .returned (.int .i64 (bk n)) ∧ w = w' := by
  go_enter Try.func26, Try.ntmps26
  go_wp2
  go_loop [3] (fun t => ∃ b : Int, BkAt n b ∧ t = .int .i64 b) (fun t => (256 - intOf t).toNat)
  case atStart => exact ⟨1, BkAt.start n, rfl⟩
  case round =>
    obtain ⟨b, hb, rfl⟩ := hrel
    obtain ⟨b0, b1⟩ := hb.bd
    by_cases hlt : b * 16384 < n
    · have hs := hb.step h1 hlt
      obtain ⟨hs1, hs2⟩ := hs
      go_wp2
      go_round
      case rel => exact ⟨b * 2, hs1, rfl⟩
      case measure => simp [intOf]; omega
    · have hf := Lib.hid (hb.fin (by omega))
      go_wp2
      go_ret
      exact ⟨by rw [hf.out]; rfl, rfl⟩

end Go.Proofs.Ytlnoomganphbeaa
