/-
  The names of bytes, as functions over lists. Nothing here speaks of the program.
-/
import Derived.Test.YtaiceidmcelapaaDoorNamSpec
import Derived.Lib.IndexMore
set_option linter.unusedSimpArgs false
set_option linter.unusedVariables false
namespace Go.Proofs.YtaiceidmcelapaaDoor

def hexT : Tx := [48, 49, 50, 51, 52, 53, 54, 55, 56, 57, 65, 66, 67, 68, 69, 70]
def hexd (n : Nat) : UInt8 := hexT.getD n 0
/-- a byte's two digits -/
def hex2 (v : Nat) : Tx := [hexd (v / 16), hexd (v % 16)]
/-- a byte with its sign -/
def sgn (v : Nat) : Tx := if v < 128 then 43 :: dec3 v else 45 :: dec3 (256 - v)
def cBehind (b1 page bits : Nat) : Nat × Nat × Nat := if b1 = 221 ∨ b1 = 237 ∨ b1 = 253 then (0, 0, 1) else if b1 = 203 then (bits, 3, 2) else (page, 1, 2)
def cFind (b0 b1 : Nat) : Nat × Nat × Nat := if b0 = 203 then (1, 1, 2) else if b0 = 237 then (2, 1, 2) else if b0 = 221 then cBehind b1 3 5 else if b0 = 253 then cBehind b1 4 6 else (0, 0, 1)
def cText (mark : Tx) (a b : Nat) : Tx := if mark = [110, 110] then [36] ++ (hex2 b ++ hex2 a) else if mark = [110] then [36] ++ hex2 a else sgn a
def cSize (mark : Tx) : Nat := if mark = [110, 110] then 2 else 1
def mark : Nat → Tx
  | 0 => [43, 100]
  | 1 => [110, 110]
  | 2 => [110]
  | _ => [101]
def cStep (bs : List Nat) (m : Tx) (st : Tx × Nat) : Tx × Nat :=
  if (Lib.cut st.1 m).2.2 = true then ((Lib.cut st.1 m).1 ++ (cText m (bs.getD st.2 0) (bs.getD (st.2 + 1) 0) ++ (Lib.cut st.1 m).2.1), st.2 + cSize m) else st
def cFold (bs : List Nat) (st : Tx × Nat) : Nat → Tx × Nat
  | 0 => st
  | k + 1 => cStep bs (mark k) (cFold bs st k)
def cStart0 (bs : List Nat) : Tx × Nat := (cPat ((cFind (bs.getD 0 0) (bs.getD 1 0)).1 : Int) (bs.getD (cFind (bs.getD 0 0) (bs.getD 1 0)).2.1 0), (cFind (bs.getD 0 0) (bs.getD 1 0)).2.2)
/-- what package names answers -/
def cName (bs : List Nat) : Tx × Nat := ((cFold bs (cStart0 bs) 4).1, max (cFold bs (cStart0 bs) 4).2 ((cFind (bs.getD 0 0) (bs.getD 1 0)).2.1 + 1))

theorem len_pat (page : Int) (n : Nat) (hn : n < 256) : (cPat page n).length ≤ 24 := by
  by_cases h : page < 0 ∨ 6 < page
  · have e : cPat page n = [] := by
      rw [cPat, if_neg (by omega), if_neg (by omega), if_neg (by omega), if_neg (by omega), if_neg (by omega), if_neg (by omega), if_neg (by omega)]
    rw [e]; exact Nat.zero_le _
  · have hall : ∀ p < 7, ∀ n < 256, (cPat ((p : Nat) : Int) n).length ≤ 24 := by decide +kernel
    obtain ⟨p, hp⟩ := Int.eq_ofNat_of_zero_le (show 0 ≤ page by omega)
    subst hp
    exact hall p (by omega) n hn
theorem len_hex (v : Nat) : (hex2 v).length = 2 := rfl
theorem len_dec3 (v : Nat) : (dec3 v).length ≤ 3 := by unfold dec3; split <;> (try split) <;> simp
theorem len_sgn (v : Nat) : (sgn v).length ≤ 4 := by
  unfold sgn
  have h1 := len_dec3 v
  have h2 := len_dec3 (256 - v)
  split <;> simp only [List.length_cons] <;> omega
theorem len_text (m : Tx) (a b : Nat) : (cText m a b).length ≤ 5 := by
  unfold cText
  have h := len_sgn a
  split
  · simp [hex2]
  · split
    · simp [hex2]
    · omega
theorem len_cut (s m : Tx) : (Lib.cut s m).1.length + (Lib.cut s m).2.1.length ≤ s.length := by
  unfold Lib.cut
  split
  · simp only [List.length_take, List.length_drop]; omega
  · simp
theorem len_step (bs : List Nat) (m : Tx) (st : Tx × Nat) : (cStep bs m st).1.length ≤ st.1.length + 5 ∧ (cStep bs m st).2 ≤ st.2 + 2 := by
  unfold cStep
  split
  · have h1 := len_cut st.1 m
    have h2 := len_text m (bs.getD st.2 0) (bs.getD (st.2 + 1) 0)
    refine ⟨by simp only [List.length_append]; omega, ?_⟩
    show st.2 + cSize m ≤ _
    unfold cSize; split <;> omega
  · exact ⟨by omega, by omega⟩
theorem len_fold (bs : List Nat) (st : Tx × Nat) (k : Nat) : (cFold bs st k).1.length ≤ st.1.length + 5 * k ∧ (cFold bs st k).2 ≤ st.2 + 2 * k := by
  induction k with
  | zero => exact ⟨by simp [cFold], by simp [cFold]⟩
  | succ k ih =>
    have := len_step bs (mark k) (cFold bs st k)
    rw [cFold]
    omega
theorem find_lim (b0 b1 : Nat) : (cFind b0 b1).1 ≤ 6 ∧ (cFind b0 b1).2.1 ≤ 3 ∧ (cFind b0 b1).2.2 ≤ 2 := by
  have hb : ∀ p q, p ≤ 6 → q ≤ 6 → (cBehind b1 p q).1 ≤ 6 ∧ (cBehind b1 p q).2.1 ≤ 3 ∧ (cBehind b1 p q).2.2 ≤ 2 := by
    intro p q hp hq
    unfold cBehind
    split
    · decide
    · split
      · exact ⟨hq, Nat.le_refl 3, Nat.le_refl 2⟩
      · exact ⟨hp, (by decide : 1 ≤ 3), Nat.le_refl 2⟩
  unfold cFind
  split
  · decide
  · split
    · decide
    · split
      · exact hb 3 5 (by decide) (by decide)
      · split
        · exact hb 4 6 (by decide) (by decide)
        · decide

end Go.Proofs.YtaiceidmcelapaaDoor
