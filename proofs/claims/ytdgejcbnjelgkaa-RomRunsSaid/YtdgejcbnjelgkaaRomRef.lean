/-
  The document's own answers for a cartridge, as the laws have them: New, Banks, At, Sum: contracts over bytes in memory.
-/
import Derived.Test.YtdgejcbnjelgkaaRomGrows
namespace Go.Proofs.Ytdgejcbnjelgkaa
open Go.RowKit

/-- the bytes after k rounds -/
def refTo (bs : List Int) (R k : Nat) : List Int := (List.range R).map fun i => if i < k then bs.getD i 0 else 0
theorem refTo_length (bs : List Int) (R k : Nat) : (refTo bs R k).length = R := by simp [refTo]
theorem refTo_zero (bs : List Int) (R : Nat) : refTo bs R 0 = zeros R := by
  apply List.ext_getElem?
  intro i
  by_cases hi : i < R <;> simp [refTo, zeros, hi]
theorem refTo_step (bs : List Int) (R k : Nat) : (u8s (refTo bs R k)).set k (.int .u8 (bs.getD k 0)) = u8s (refTo bs R (k + 1)) := by
  apply List.ext_getElem?
  intro i
  rw [List.getElem?_set, u8s_get, u8s_get]
  by_cases hik : k = i
  · subst hik
    by_cases hl : k < R <;> simp [refTo, hl]
  · by_cases hl : i < R
    · have : (i < k) = (i < k + 1) := by simp only [eq_iff_iff]; omega
      simp [refTo, hl, hik, this]
    · simp [refTo, hl, hik]
theorem refTo_skip (bs : List Int) (R k : Nat) (h : bs.length ≤ k) : refTo bs R k = refTo bs R (k + 1) := by
  apply List.ext_getElem?
  intro i
  by_cases hl : i < R
  · by_cases h1 : i < k
    · simp [refTo, hl, h1, show i < k + 1 by omega]
    · by_cases h2 : i < k + 1
      · simp [refTo, hl, h1, h2, List.getElem?_eq_none (show bs.length ≤ i by omega)]
      · simp [refTo, hl, h1, h2]
  · simp [refTo, hl]
theorem refTo_all (bs : List Int) (h : bs.length ≤ 4194304) : refTo bs (romOf bs).length (romOf bs).length = romOf bs := by
  have hl := romOf_length bs h
  have hr := bk_room bs.length h
  apply List.ext_getElem?
  intro i
  by_cases hi : i < (romOf bs).length
  · have e : (refTo bs (romOf bs).length (romOf bs).length)[i]? = some (bs.getD i 0) := by simp [refTo, hi]
    rw [e, List.getElem?_eq_getElem hi]
    have hg : (romOf bs)[i] = (romOf bs).getD i 0 := by rw [List.getD_eq_getElem?_getD, List.getElem?_eq_getElem hi]; rfl
    rw [hg]
    by_cases hb : i < bs.length
    · rw [romOf_in bs i hb]
    · rw [romOf_behind bs i (by omega), List.getD_eq_getElem?_getD, List.getElem?_eq_none (by omega)]; rfl
  · rw [List.getElem?_eq_none (by rw [refTo_length]; omega), List.getElem?_eq_none (by omega)]

theorem rbanks_any (a : Option Addr) (R cap : Nat) (M : Int) (hR : (R : Int) = M * 16384) (hM : M ≤ 256) (w : World) :
    Calls Try.prog 13 #[.slice a R cap] w fun e w' => e = .returned (.int .i64 M) ∧ w' = w := by
  have hl : (R : Int) / 16384 = M := by omega
  have hlen : (R : Int) ≤ 4194304 := by omega
  have HL := Lib.hid hl
  clear hl hR
  go_enter Try.func13, Try.ntmps13
  go_wp2
  go_ret
  exact ⟨by rw [HL.out]; rfl, rfl⟩

theorem modulo_any (n m : Int) (h1 : 1 ≤ m) (h2 : m ≤ 4194304) (w : World) :
    Calls Try.prog 22 #[.int .i64 n, .int .i64 m] w fun e w' => e = .returned (.int .i64 (n % m)) ∧ w' = w := by
  have hb : 0 ≤ n % m ∧ n % m < m := ⟨Int.emod_nonneg _ (by omega), Int.emod_lt_of_pos _ (by omega)⟩
  have hm0 : (m == 0) = false := by simp; omega
  by_cases hn : n.tmod m < 0
  · have e : n.tmod m + m = n % m := by
      rw [Int.emod_eq_tmod]
      have : ¬ (0 ≤ n ∨ m ∣ n) := by
        rintro (h | h)
        · have := Int.tmod_nonneg m h; omega
        · rw [Int.tmod_eq_zero_of_dvd h] at hn; omega
      rw [if_neg this]; omega
    have hlo : -m < n.tmod m := by
      have := Int.lt_tmod_of_pos n (show 0 < m by omega); omega
    have HE := Lib.hid e
    obtain ⟨r, hr⟩ : ∃ r, r = n.tmod m := ⟨_, rfl⟩
    rw [← hr] at hn hlo e
    have hr' : n.tmod m = r := hr.symm
    clear e hr
    go_enter Try.func22, Try.ntmps22
    go_wp2
    go_ret
    exact ⟨by rw [← HE.out, hr']; rfl, rfl⟩
  · have e : n.tmod m = n % m := by
      rw [Int.emod_eq_tmod]
      have : 0 ≤ n ∨ m ∣ n := by
        by_cases h : 0 ≤ n
        · exact .inl h
        · right
          have h3 : n.tmod m ≤ 0 := by
            have := Int.tmod_nonneg m (show 0 ≤ -n by omega)
            rw [Int.neg_tmod] at this; omega
          exact Int.dvd_of_tmod_eq_zero (by omega)
      rw [if_pos this]; omega
    obtain ⟨r, hr⟩ : ∃ r, r = n % m := ⟨_, rfl⟩
    rw [← hr] at hb e ⊢
    have hlt : ¬ r < 0 := by omega
    clear hr hn
    go_enter Try.func22, Try.ntmps22
    go_wp2
    go_ret
    exact ⟨rfl, rfl⟩

end Go.Proofs.Ytdgejcbnjelgkaa
