/-
  Package rom's sumOf: the sum over any bytes that lie in memory, as a fold.
-/
import Derived.Test.YtdgejcbnjelgkaaWords
namespace Go.Proofs.Ytdgejcbnjelgkaa
open Go.RowKit

def fnvF (s z : Int) : Int := bits .xor .u32 s (z % 4294967296) * 16777619 % 4294967296
def fnv (zs : List Int) : Int := zs.foldl fnvF 2166136261
theorem fnv_snoc (zs : List Int) (k : Nat) (h : k < zs.length) : fnv (zs.take (k + 1)) = fnvF (fnv (zs.take k)) (zs[k]?.getD 0) := by
  rw [List.take_succ_eq_append_getElem h, fnv, List.foldl_append]
  simp [fnv, h]

set_option maxHeartbeats 400000 in
theorem sumOf_any (a : Option Addr) (n cap : Nat) (zs : List Int) (w : World) (B : Nat) (hb : Bytes w B a n zs) (hn : n ≤ 4194304) :
    Calls Try.prog 21 #[.slice a n cap] w fun e w' => e = .returned (.int .u32 (fnv zs)) ∧ w = w' := by
  go_enter Try.func21, Try.ntmps21
  go_wp2
  go_loop [3, 8] (fun s i => ∃ k : Nat, k ≤ n ∧ i = .int .i64 k ∧ s = .int .u32 (fnv (zs.take k))) (fun _ i => n - (intOf i).toNat)
  case atStart => exact ⟨0, by omega, rfl, rfl⟩
  case round =>
    obtain ⟨k, hk, rfl, rfl⟩ := hrel
    by_cases hlt : k < n
    · obtain ⟨g, o, rfl, hg, hc⟩ := hb.2 (by omega)
      have hck := hc k hlt
      have HS := Lib.hid (fnv_snoc zs k (by have := hb.1; omega))
      clear hb hc
      go_wp2
      go_round
      case rel => exact ⟨k + 1, by omega, by go_num, by rw [HS.out, fnvF]⟩
      case measure => simp [intOf]; omega
    · have hl := Lib.hid hb.1
      clear hb
      go_wp2
      go_ret
      exact ⟨by rw [List.take_of_length_le (by have := hl.out; omega)]; rfl, rfl⟩

end Go.Proofs.Ytdgejcbnjelgkaa
