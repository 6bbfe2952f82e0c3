/-
  What stands where in a picture's memory whose table is the last one.
-/
import Derived.Test.YtcefgcoibppdaaaSpPic
import Derived.Test.YtcefgcoibppdaaaSpLine
namespace Go.Proofs.Ytcefgcoibppdaaa
open Go.RowKit

section
variable {T : Nat → Nat} {sp : Nat → Nat → Nat}
theorem upd_ne (f : Nat → Nat) {k v a : Nat} (h : a ≠ k) : upd f k v a = f a := by unfold upd; rw [if_neg h]
theorem upd_eq (f : Nat → Nat) (k v : Nat) : upd f k v k = v := by unfold upd; rw [if_pos rfl]
theorem bAt_tile : ∀ j, j ≤ 64 → ∀ a, a < 16128 → bAt T 16128 sp j a = T a
  | 0, _, a, ha => by show (if a < 16384 then T a else 0) = T a; rw [if_pos (by omega)]
  | j + 1, hj, a, ha => by
    show upd (upd (upd (bAt T 16128 sp j) ((16128 + j) % 16384) (sp j 0)) ((16128 + 128 + 2 * j) % 16384) (sp j 1)) ((16128 + 129 + 2 * j) % 16384) (sp j 2) a = T a
    rw [upd_ne _ (by omega), upd_ne _ (by omega), upd_ne _ (by omega)]
    exact bAt_tile j (by omega) a ha
theorem bAt_y : ∀ j, j ≤ 64 → ∀ i, i < j → bAt T 16128 sp j (16128 + i) = sp i 0
  | 0, _, i, hi => by omega
  | j + 1, hj, i, hi => by
    show upd (upd (upd (bAt T 16128 sp j) ((16128 + j) % 16384) (sp j 0)) ((16128 + 128 + 2 * j) % 16384) (sp j 1)) ((16128 + 129 + 2 * j) % 16384) (sp j 2) (16128 + i) = sp i 0
    rw [upd_ne _ (by omega), upd_ne _ (by omega)]
    by_cases h : i = j
    · subst h
      rw [show (16128 + i) % 16384 = 16128 + i by omega, upd_eq]
    · rw [upd_ne _ (by omega)]
      exact bAt_y j (by omega) i (by omega)
theorem bAt_x : ∀ j, j ≤ 64 → ∀ i, i < j → bAt T 16128 sp j (16128 + 128 + 2 * i) = sp i 1
  | 0, _, i, hi => by omega
  | j + 1, hj, i, hi => by
    show upd (upd (upd (bAt T 16128 sp j) ((16128 + j) % 16384) (sp j 0)) ((16128 + 128 + 2 * j) % 16384) (sp j 1)) ((16128 + 129 + 2 * j) % 16384) (sp j 2) (16128 + 128 + 2 * i) = sp i 1
    rw [upd_ne _ (by omega)]
    by_cases h : i = j
    · subst h
      rw [show (16128 + 128 + 2 * i) % 16384 = 16128 + 128 + 2 * i by omega, upd_eq]
    · rw [upd_ne _ (by omega), upd_ne _ (by omega)]
      exact bAt_x j (by omega) i (by omega)
theorem bAt_t : ∀ j, j ≤ 64 → ∀ i, i < j → bAt T 16128 sp j (16128 + 129 + 2 * i) = sp i 2
  | 0, _, i, hi => by omega
  | j + 1, hj, i, hi => by
    show upd (upd (upd (bAt T 16128 sp j) ((16128 + j) % 16384) (sp j 0)) ((16128 + 128 + 2 * j) % 16384) (sp j 1)) ((16128 + 129 + 2 * j) % 16384) (sp j 2) (16128 + 129 + 2 * i) = sp i 2
    by_cases h : i = j
    · subst h
      rw [show (16128 + 129 + 2 * i) % 16384 = 16128 + 129 + 2 * i by omega, upd_eq]
    · rw [upd_ne _ (by omega), upd_ne _ (by omega), upd_ne _ (by omega)]
      exact bAt_t j (by omega) i (by omega)
theorem vget_16 (xs : Nat → Nat) {a : Nat} (h : a < 16384) : vget 16384 xs a = xs a := by unfold vget; rw [if_pos h]
theorem mem_16 (xs : Nat → Nat) {a : Nat} (h : a < 16384) : mem 16384 xs a = xs a := by unfold mem; rw [Nat.mod_eq_of_lt h, vget_16 xs h]
theorem bMem_ne {ns : Nat} (h : ns ≤ 64) {a : Nat} (ha : a ≠ 16128 + ns) : bMem T 16128 sp ns a = bAt T 16128 sp ns a := by
  unfold bMem
  split
  · rw [upd_ne]; omega
  · rfl
theorem mem_tile {ns : Nat} (h : ns ≤ 64) {a : Nat} (ha : a < 16128) : vget 16384 (bMem T 16128 sp ns) a = T a := by
  rw [vget_16 _ (by omega), bMem_ne h (by omega), bAt_tile ns h a ha]
theorem mem_y {ns : Nat} (h : ns ≤ 64) {i : Nat} (hi : i < ns) : mem 16384 (bMem T 16128 sp ns) (16128 + i) = sp i 0 := by
  rw [mem_16 _ (by omega), bMem_ne h (by omega), bAt_y ns h i hi]
theorem mem_end {ns : Nat} (h : ns < 64) : mem 16384 (bMem T 16128 sp ns) (16128 + ns) = 208 := by
  rw [mem_16 _ (by omega)]
  unfold bMem
  rw [if_pos h, show (16128 + ns) % 16384 = 16128 + ns by omega, upd_eq]
theorem mem_x {ns : Nat} (h : ns ≤ 64) {i : Nat} (hi : i < ns) : mem 16384 (bMem T 16128 sp ns) (16128 + 128 + 2 * i) = sp i 1 := by
  rw [mem_16 _ (by omega), bMem_ne h (by omega), bAt_x ns h i hi]
theorem mem_t {ns : Nat} (h : ns ≤ 64) {i : Nat} (hi : i < ns) : mem 16384 (bMem T 16128 sp ns) (16128 + 129 + 2 * i) = sp i 2 := by
  rw [mem_16 _ (by omega), bMem_ne h (by omega), bAt_t ns h i hi]
end
/-- the sprites of a list by their Y alone: which are on a line, from the i-th on, k of them, all listed -/
theorem spFrom_congr {Y Y' : Nat → Nat} {h : Nat} {line : Int} (c : Nat) (hc : Y c = 208) (hc' : Y' c = 208) : ∀ k i, i ≤ c → (∀ m, i ≤ m → m < c → Y m = Y' m) → c < i + k → spFrom Y h line k i = spFrom Y' h line k i
  | 0, i, h1, _, h3 => by omega
  | k + 1, i, h1, h2, h3 => by
    show (if Y i = 208 then [] else if spIs h line (Y i) = true then i :: spFrom Y h line k (i + 1) else spFrom Y h line k (i + 1)) = (if Y' i = 208 then [] else if spIs h line (Y' i) = true then i :: spFrom Y' h line k (i + 1) else spFrom Y' h line k (i + 1))
    by_cases he : i = c
    · subst he; rw [if_pos hc, if_pos hc']
    · rw [← h2 i (Nat.le_refl _) (by omega), spFrom_congr c hc hc' k (i + 1) (by omega) (fun m hm hm' => h2 m (by omega) hm') (by omega)]
theorem spFrom_more {Y : Nat → Nat} {h h' : Nat} {line : Int} (hh : h ≤ h') : ∀ k i, (spFrom Y h line k i).length ≤ (spFrom Y h' line k i).length
  | 0, _ => by simp [spFrom]
  | k + 1, i => by
    have ih := spFrom_more (Y := Y) (line := line) hh k (i + 1)
    show (if Y i = 208 then [] else if spIs h line (Y i) = true then i :: spFrom Y h line k (i + 1) else spFrom Y h line k (i + 1)).length ≤ (if Y i = 208 then [] else if spIs h' line (Y i) = true then i :: spFrom Y h' line k (i + 1) else spFrom Y h' line k (i + 1)).length
    split
    · simp
    · by_cases h1 : spIs h line (Y i) = true
      · have h2 : spIs h' line (Y i) = true := by
          unfold spIs at h1 ⊢
          simp at h1 ⊢
          omega
        rw [if_pos h1, if_pos h2]; simp; omega
      · rw [if_neg h1]
        split
        · simp; omega
        · exact ih

end Go.Proofs.Ytcefgcoibppdaaa
