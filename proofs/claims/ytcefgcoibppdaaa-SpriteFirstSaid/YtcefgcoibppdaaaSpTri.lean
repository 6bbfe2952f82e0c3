/-
  Threes of bytes in a row that the call has made by appends.
-/
import Derived.Test.YtcefgcoibppdaaaSpPic
import Derived.Test.YtcefgcoibppdaaaRowN
namespace Go.Proofs.Ytcefgcoibppdaaa
open Go.RowKit

/-- the first j threes as cells -/
def tris (sp : Nat → Nat → Nat) : Nat → List Value
  | 0 => []
  | j + 1 => tris sp j ++ [.int .u8 (sp j 0 : Int), .int .u8 (sp j 1 : Int), .int .u8 (sp j 2 : Int)]
theorem tris_length (sp : Nat → Nat → Nat) : ∀ j, (tris sp j).length = j * 3
  | 0 => rfl
  | j + 1 => by show (tris sp j ++ _).length = _; rw [List.length_append, tris_length sp j]; simp; omega
theorem tris_get (sp : Nat → Nat → Nat) : ∀ j i k, i < j → k < 3 → (tris sp j)[i * 3 + k]? = some (.int .u8 (sp i k : Int))
  | 0, i, k, hi, _ => by omega
  | j + 1, i, k, hi, hk => by
    show (tris sp j ++ _)[i * 3 + k]? = _
    by_cases h : i = j
    · subst h
      rw [List.getElem?_append_right (by rw [tris_length]; omega), tris_length, Nat.add_sub_cancel_left]
      match k, hk with
      | 0, _ => rfl
      | 1, _ => rfl
      | 2, _ => rfl
    · rw [List.getElem?_append_left (by rw [tris_length]; omega)]
      exact tris_get sp j i k (by omega) hk
theorem rowN_tri {w : World} {B k : Nat} {R : List (Nat × TypeId × List Value)} {v : Value} {t : TypeId} {sp : Nat → Nat → Nat} (h : RowN 3 t R v k (tris sp k)) (hW : ∀ x ∈ R, B ≤ x.1 ∧ Whole w x.1 x.2.1 x.2.2) (hs : ∀ i, i < k → ∀ m, m < 3 → sp i m < 256) : ∃ p c, v = .slice p k c ∧ TriRow w p k sp := by
  obtain ⟨_, ⟨rfl, rfl, h0⟩ | ⟨g, cap, cur, rfl, rfl, h1, h2, h3, h4⟩⟩ := h
  · exact ⟨none, 0, by rw [h0], by rw [h0]; exact TriRow.nil _ _ _⟩
  · refine ⟨_, cap, rfl, fun hn => ⟨g, 0, rfl, (hW (g, t, cur) (by simp)).2.inside, fun i hi m hm => ⟨?_, hs i hi m hm⟩⟩⟩
    rw [Nat.zero_add, (hW (g, t, cur) (by simp)).2.at_]
    have e1 : (cur.take (k * 3))[i * 3 + m]? = cur[i * 3 + m]? := by rw [List.getElem?_take, if_pos (by omega)]
    rw [← e1, h4]
    exact tris_get sp k i m hi hm
theorem tri_now {w : World} {B k cp : Nat} {p : Option Addr} {R : List (Nat × TypeId × List Value)} {t : TypeId} {sp : Nat → Nat → Nat} (h : RowN 3 t R (.slice p k cp) k (tris sp k)) (hW : ∀ x ∈ R, B ≤ x.1 ∧ Whole w x.1 x.2.1 x.2.2) (hs : ∀ i, i < k → ∀ m, m < 3 → sp i m < 256) : TriRow w p k sp := by
  obtain ⟨p', c', e, ht⟩ := rowN_tri h hW hs
  cases e
  exact ht
theorem RowN.slice {sz : Nat} {t : TypeId} {R : List (Nat × TypeId × List Value)} {v : Value} {k : Nat} {xs : List Value} (h : RowN sz t R v k xs) : ∃ p c, v = .slice p k c := by
  obtain ⟨_, ⟨-, rfl, rfl⟩ | ⟨g, cap, cur, -, rfl, -⟩⟩ := h
  · exact ⟨_, _, rfl⟩
  · exact ⟨_, _, rfl⟩

end Go.Proofs.Ytcefgcoibppdaaa
