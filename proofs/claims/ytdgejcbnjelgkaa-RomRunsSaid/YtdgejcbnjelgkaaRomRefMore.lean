/-
  The document's own New, At and Sum for a cartridge: the same bytes, the same byte, the same sum.
-/
import Derived.Test.YtdgejcbnjelgkaaRomRef
import Derived.Laws.BitsAllLaws
namespace Go.Proofs.Ytdgejcbnjelgkaa
open Go.RowKit

/-- each number is a byte -/
def InByte (zs : List Int) : Prop := ∀ z ∈ zs, 0 ≤ z ∧ z < 256
theorem fnv_range (zs : List Int) : 0 ≤ fnv zs ∧ fnv zs < 4294967296 := by
  rw [fnv]
  rcases List.eq_nil_or_concat zs with rfl | ⟨l, z, rfl⟩
  · simp
  · rw [List.concat_eq_append, List.foldl_append, List.foldl_cons, List.foldl_nil, fnvF]
    omega
/-- a step of the sum, reckoned in 64 bits -/
theorem step64 (s z : Int) (h0 : 0 ≤ s) (h1 : s < 4294967296) (z0 : 0 ≤ z) (z1 : z < 256) :
    bits .xor .u64 s z * 16777619 % 4294967296 = fnvF s z ∧ 0 ≤ bits .xor .u64 s z ∧ bits .xor .u64 s z < 4294967296 := by
  have e1 := u64_xor s z h0 (by omega) z0 (by omega)
  have e2 := u32_xor s z h0 h1 z0 (by omega)
  have hx : s.toNat ^^^ z.toNat < 2 ^ 32 := Nat.xor_lt_two_pow (by omega) (by omega)
  have ez : z % 4294967296 = z := by omega
  rw [fnvF, ez, e1, e2]
  omega

set_option maxHeartbeats 800000 in
theorem rsum_any (a : Option Addr) (n cap : Nat) (zs : List Int) (w : World) (B : Nat) (hb : Bytes w B a n zs) (hn : n ≤ 4194304) (hz : InByte zs) :
    Calls Try.prog 16 #[.slice a n cap] w fun e w' => e = .returned (.int .u32 (fnv zs)) ∧ w' = w := by
  have HZ := Lib.hid hz
  clear hz
  go_enter Try.func16, Try.ntmps16
  go_wp2
  go_loop [3, 8] (fun s i => ∃ k : Nat, k ≤ n ∧ i = .int .i64 k ∧ s = .int .u64 (fnv (zs.take k))) (fun _ i => n - (intOf i).toNat)
  case atStart => exact ⟨0, by omega, rfl, rfl⟩
  case round =>
    obtain ⟨k, hk, rfl, rfl⟩ := hrel
    by_cases hlt : k < n
    · obtain ⟨g, o, rfl, hg, hc⟩ := hb.2 (by omega)
      have hck := hc k hlt
      obtain ⟨s, hs⟩ : ∃ s, s = fnv (zs.take k) := ⟨_, rfl⟩
      obtain ⟨z, hz⟩ : ∃ z, z = zs.getD k 0 := ⟨_, rfl⟩
      have hsr := fnv_range (zs.take k)
      have hzr : 0 ≤ z ∧ z < 256 := by
        have hkl : k < zs.length := by have := hb.1; omega
        rw [hz, List.getD_eq_getElem?_getD, List.getElem?_eq_getElem hkl]
        exact HZ.out _ (List.getElem_mem hkl)
      rw [← hs] at hsr ⊢
      rw [← hz] at hck
      have h64 := step64 s z hsr.1 hsr.2 hzr.1 hzr.2
      obtain ⟨y, hy⟩ : ∃ y, y = bits .xor .u64 s z := ⟨_, rfl⟩
      have hyy : bits .xor .u64 s z = y := hy.symm
      rw [hyy] at h64
      have hy0 := h64.2.1
      have hy1 := h64.2.2
      have HS : Hid (fnv (zs.take (k + 1)) = y * 16777619 % 4294967296) := by
        have := fnv_snoc zs k (by have := hb.1; omega)
        show _ = _
        rw [h64.1, hs, this, hz, List.getD_eq_getElem?_getD]
      clear hb hc hs hz hy h64
      go_wp2
      go_round
      case rel => exact ⟨k + 1, by omega, by go_num, by rw [HS.out]⟩
      case measure => simp [intOf]; omega
    · have hl := Lib.hid hb.1
      have hsr := fnv_range zs
      have HT : Hid (zs.take k = zs) := List.take_of_length_le (by have := hl.out; omega)
      clear hb
      rw [HT.out]
      obtain ⟨s, hs⟩ : ∃ s, s = fnv zs := ⟨_, rfl⟩
      rw [← hs] at hsr ⊢
      have HS := Lib.hid hs
      clear hs
      go_wp2
      go_ret
      exact ⟨by rw [← HS.out]; rfl, rfl⟩

end Go.Proofs.Ytdgejcbnjelgkaa
