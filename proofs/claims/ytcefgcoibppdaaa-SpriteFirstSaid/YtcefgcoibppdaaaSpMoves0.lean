/-
  Sprites that are moved by some dots: what is seen, dot by dot.
-/
import Derived.Test.YtcefgcoibppdaaaSpMem
namespace Go.Proofs.Ytcefgcoibppdaaa
open Go.RowKit

/-- the tiles' dots, of a memory's lower part -/
def tT (T : Nat → Nat) (e r i : Nat) : Nat := dotV (T (32 * (e % 512) + 4 * (r % 8))) (T (32 * (e % 512) + 4 * (r % 8) + 1)) (T (32 * (e % 512) + 4 * (r % 8) + 2)) (T (32 * (e % 512) + 4 * (r % 8) + 3)) (2 ^ (7 - i))
theorem tAt_mem {T : Nat → Nat} {sp : Nat → Nat → Nat} {ns : Nat} (h : ns ≤ 64) (e r i : Nat) (he : e % 512 ≤ 500) : tAt 16384 (bMem T 16128 sp ns) e r i = tT T e r i := by
  unfold tAt tT
  have : 32 * (e % 512) + 4 * (r % 8) + 3 < 16128 := by omega
  rw [mem_tile h (by omega), mem_tile h (by omega), mem_tile h (by omega), mem_tile h (by omega)]
theorem spFrom_before {Y : Nat → Nat} {h : Nat} {line : Int} (c : Nat) (hc : Y c = 208) : ∀ k i, i ≤ c → ∀ x ∈ spFrom Y h line k i, x < c
  | 0, i, _, x, hx => by simp [spFrom] at hx
  | k + 1, i, hi, x, hx => by
    have hx' : x ∈ (if Y i = 208 then [] else if spIs h line (Y i) = true then i :: spFrom Y h line k (i + 1) else spFrom Y h line k (i + 1)) := hx
    by_cases he : i = c
    · subst he; rw [if_pos hc] at hx'; simp at hx'
    · split at hx'
      · simp at hx'
      · split at hx'
        · rcases List.mem_cons.1 hx' with rfl | hx'
          · omega
          · exact spFrom_before c hc k (i + 1) (by omega) x hx'
        · exact spFrom_before c hc k (i + 1) (by omega) x hx'
theorem spCol_zero : ∀ l : List Nat, (∀ d ∈ l, d = 0) → spCol l = 0
  | [], _ => rfl
  | d :: ds, h => by
    show (if d = 0 then spCol ds else 16 + d) = 0
    rw [if_pos (h d (by simp))]
    exact spCol_zero ds fun x hx => h x (by simp [hx])
theorem spCnt_zero : ∀ l : List Nat, (∀ d ∈ l, d = 0) → spCnt l = 0
  | [], _ => rfl
  | d :: ds, h => by
    show (if d = 0 then spCnt ds else 1 + spCnt ds) = 0
    rw [if_pos (h d (by simp))]
    exact spCnt_zero ds fun x hx => h x (by simp [hx])
theorem spCnt_some : ∀ l : List Nat, 0 < spCnt l → ∃ d ∈ l, ¬ d = 0
  | [], h => by simp [spCnt] at h
  | d :: ds, h => by
    by_cases e : d = 0
    · have h' : 0 < spCnt ds := by
        have h2 : 0 < (if d = 0 then spCnt ds else 1 + spCnt ds) := h
        rw [if_pos e] at h2; exact h2
      obtain ⟨x, hx, hx'⟩ := spCnt_some ds h'
      exact ⟨x, by simp [hx], hx'⟩
    · exact ⟨d, by simp, e⟩
/-- the tile's number is below 257, without the register's bit -/
theorem spDotV_tile {D D' : Nat → Nat → Nat → Nat} {r0 r1 : Nat} {line : Int} {y X t x : Nat} (ht : t < 256) (hD : ∀ e r i, e ≤ 256 → D e r i = D' e r i) : spDotV D r0 r1 0 line y X t x = spDotV D' r0 r1 0 line y X t x := by
  have he : (if r1 / 2 % 2 = 1 then (t + 256 * (0 / 4 % 2)) / 2 * 2 else t + 256 * (0 / 4 % 2)) ≤ 255 := by split <;> omega
  unfold spDotV
  rw [hD _ _ _ (by omega), hD _ _ _ (by omega)]
theorem spDotV_right {D : Nat → Nat → Nat → Nat} {r1 r6 : Nat} {line : Int} {y X t x n : Nat} : spDotV D 0 r1 r6 line y (X + n) t (x + n) = spDotV D 0 r1 r6 line y X t x := by
  unfold spDotV
  have e : ((x + n : Nat) : Int) - (((X + n : Nat) : Int) - 8 * (0 / 8 % 2 : Nat)) = (x : Int) - ((X : Int) - 8 * (0 / 8 % 2 : Nat)) := by omega
  rw [e]
theorem spDotV_left {D : Nat → Nat → Nat → Nat} {r1 r6 : Nat} {line : Int} {y X t x : Nat} (h : x < X) : spDotV D 0 r1 r6 line y X t x = 0 := by
  unfold spDotV
  rw [if_pos (.inl (by omega))]
theorem spDotV_wide {D : Nat → Nat → Nat → Nat} {r1 r6 : Nat} {line : Int} {y X t x : Nat} (h : ¬ spDotV D 0 r1 r6 line y X t x = 0) : X ≤ x ∧ x < X + 16 := by
  by_cases e : (x : Int) - ((X : Int) - 8 * (0 / 8 % 2 : Nat)) < 0 ∨ (8 * (1 + r1 % 2) : Nat) ≤ (x : Int) - ((X : Int) - 8 * (0 / 8 % 2 : Nat))
  · exact absurd (by unfold spDotV; rw [if_pos e]) h
  · omega
section
variable (T : Nat → Nat) (sp sp' : Nat → Nat → Nat) (ns n r1 : Nat) (line : Int)
/-- what is at a sprite's place -/
theorem spDot_mem (hn : ns < 64) (h8 : ∀ i, i < ns → sp i 2 < 256) (x i : Nat) (hi : i < ns) : spDot 16384 (bMem T 16128 sp ns) 0 r1 126 0 line x i = spDotV (tT T) 0 r1 0 line (sp i 0) (sp i 1) (sp i 2) x := by
  show spDotV (tAt 16384 (bMem T 16128 sp ns)) 0 r1 0 line (mem 16384 (bMem T 16128 sp ns) (16128 + i)) (mem 16384 (bMem T 16128 sp ns) (16128 + 128 + 2 * i)) (mem 16384 (bMem T 16128 sp ns) (16128 + 129 + 2 * i)) x = _
  rw [mem_y (by omega) hi, mem_x (by omega) hi, mem_t (by omega) hi]
  exact spDotV_tile (h8 i hi) fun e r i he => tAt_mem (by omega) e r i (by omega)
theorem spL_moved (hn : ns < 64) (h0 : ∀ i, sp' i 0 = sp i 0) : spL 16384 (bMem T 16128 sp' ns) r1 126 line = spL 16384 (bMem T 16128 sp ns) r1 126 line := by
  unfold spL spAll
  refine spFrom_congr ns (by exact mem_end hn) (by exact mem_end hn) 64 0 (Nat.zero_le _) (fun m _ hm => ?_) (by omega)
  show mem 16384 (bMem T 16128 sp' ns) (16128 + m) = mem 16384 (bMem T 16128 sp ns) (16128 + m)
  rw [mem_y (by omega) hm, mem_y (by omega) hm, h0]
theorem spL_in (hn : ns < 64) : ∀ i ∈ (spL 16384 (bMem T 16128 sp ns) r1 126 line).take 8, i < ns := fun i hi => by
  have h := List.mem_of_mem_take hi
  exact spFrom_before (Y := spY 16384 (bMem T 16128 sp ns) 126) ns (by exact mem_end hn) 64 0 (Nat.zero_le _) i h
variable (hn : ns < 64) (h0 : ∀ i, sp' i 0 = sp i 0) (h1 : ∀ i, sp' i 1 = sp i 1 + n) (h2 : ∀ i, sp' i 2 = sp i 2) (h8 : ∀ i, i < ns → sp i 2 < 256)
include hn h0 h1 h2 h8
theorem dots_moved (x : Nat) : spDots 16384 (bMem T 16128 sp' ns) 0 r1 126 0 line (x + n) = spDots 16384 (bMem T 16128 sp ns) 0 r1 126 0 line x := by
  unfold spDots
  rw [spL_moved T sp sp' ns r1 line hn h0]
  refine List.map_congr_left fun i hi => ?_
  have hi' := spL_in T sp ns r1 line hn i hi
  rw [spDot_mem T sp' ns r1 line hn (fun i hi => by rw [h2]; exact h8 i hi) _ i hi', spDot_mem T sp ns r1 line hn h8 _ i hi', h0, h1, h2, spDotV_right]
omit h0 in
theorem dots_none (x : Nat) (hx : x < n) : ∀ d ∈ spDots 16384 (bMem T 16128 sp' ns) 0 r1 126 0 line x, d = 0 := by
  intro d hd
  unfold spDots at hd
  obtain ⟨i, hi, rfl⟩ := List.mem_map.1 hd
  have hi' := spL_in T sp' ns r1 line hn i hi
  rw [spDot_mem T sp' ns r1 line hn (fun i hi => by rw [h2]; exact h8 i hi) _ i hi', h1]
  exact spDotV_left (by omega)
theorem color_moved (x : Nat) : spC 16384 (bMem T 16128 sp' ns) 0 r1 126 0 line (x + n) = spC 16384 (bMem T 16128 sp ns) 0 r1 126 0 line x := by
  unfold spC
  rw [dots_moved T sp sp' ns n r1 line hn h0 h1 h2 h8]
omit h0 in
theorem color_none (x : Nat) (hx : x < n) : spC 16384 (bMem T 16128 sp' ns) 0 r1 126 0 line x = 0 := spCol_zero _ (dots_none T sp sp' ns n r1 line hn h1 h2 h8 x hx)
omit h1 h2 h8 in
theorem over_moved : spO 16384 (bMem T 16128 sp' ns) r1 126 line = spO 16384 (bMem T 16128 sp ns) r1 126 line := by
  unfold spO
  rw [spL_moved T sp sp' ns r1 line hn h0]
theorem meets_moved (hX : ∀ i, i < ns → sp i 1 < 160) (hb : n < 60) : spK 16384 (bMem T 16128 sp' ns) 0 r1 126 0 line = spK 16384 (bMem T 16128 sp ns) 0 r1 126 0 line := by
  unfold spK
  rw [Bool.eq_iff_iff]
  simp only [List.any_eq_true, List.mem_range, decide_eq_true_eq]
  constructor
  · rintro ⟨y, hy, h⟩
    by_cases hyn : y < n
    · rw [spCnt_zero _ (dots_none T sp sp' ns n r1 line hn h1 h2 h8 y hyn)] at h
      omega
    · refine ⟨y - n, by omega, ?_⟩
      rw [← dots_moved T sp sp' ns n r1 line hn h0 h1 h2 h8, show y - n + n = y by omega]
      exact h
  · rintro ⟨x, hx, h⟩
    refine ⟨x + n, ?_, by rw [dots_moved T sp sp' ns n r1 line hn h0 h1 h2 h8]; exact h⟩
    obtain ⟨d, hd, hd0⟩ := spCnt_some _ (by omega : 0 < spCnt (spDots 16384 (bMem T 16128 sp ns) 0 r1 126 0 line x))
    unfold spDots at hd
    obtain ⟨i, hi, rfl⟩ := List.mem_map.1 hd
    have hi' := spL_in T sp ns r1 line hn i hi
    rw [spDot_mem T sp ns r1 line hn h8 _ i hi'] at hd0
    have := spDotV_wide hd0
    have := hX i hi'
    omega
end

end Go.Proofs.Ytcefgcoibppdaaa
