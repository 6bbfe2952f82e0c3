/-
  A sprite's dots laid into a line, as functions: what a line holds behind some of them.
-/
import Derived.Test.YtcefgcoibppdaaaSpLine
import Derived.Test.YtcefgcoibppdaaaSpRow
import Derived.Test.YtcefgcoibppdaaaLiAt0
namespace Go.Proofs.Ytcefgcoibppdaaa
open Go.RowKit

/-- the dot at a column: eight dots from X on, each s times -/
def layD (X : Int) (D : Nat → Nat) (s : Nat) (a : Nat) : Nat := if (a : Int) - X < 0 ∨ (8 * s : Nat) ≤ (a : Int) - X then 0 else D (((a : Int) - X).toNat / s)
/-- the color behind it -/
def layC (f dd : Nat → Nat) (a : Nat) : Nat := if f a = 0 then (if dd a = 0 then 0 else 16 + dd a) else f a
def meets (f dd : Nat → Nat) (a : Nat) : Bool := decide (f a ≠ 0) && decide (dd a ≠ 0)
/-- behind the columns ahead of x -/
def layU (f dd : Nat → Nat) (x : Int) (a : Nat) : Nat := if (a : Int) < x then layC f dd a else f a
def layV (f dd : Nat → Nat) (x : Int) : Bool := (List.range 256).any fun a => decide ((a : Int) < x) && meets f dd a
def layK (f dd : Nat → Nat) : Bool := (List.range 256).any fun a => meets f dd a
theorem rcells_ext {f f' : Nat → Nat} {o c : Bool} (h : ∀ x, x < 256 → f x = f' x) : rcells f o c = rcells f' o c := by
  unfold rcells
  congr 1
  exact List.map_congr_left fun x hx => by rw [h x (List.mem_range.1 hx)]
theorem layU_start (f dd : Nat → Nat) (X : Int) (D : Nat → Nat) (s : Nat) (hd : dd = layD X D s) : layU f dd X = f := by
  funext a
  unfold layU
  split
  · rename_i h
    have h0 : dd a = 0 := by rw [hd]; unfold layD; rw [if_pos (.inl (by omega))]
    unfold layC
    rw [h0]
    split
    · rename_i h1; rw [h1]; rfl
    · rfl
  · rfl
theorem layV_start (f dd : Nat → Nat) (X : Int) (D : Nat → Nat) (s : Nat) (hd : dd = layD X D s) : layV f dd X = false := by
  unfold layV
  rw [List.any_eq_false]
  intro a _ h
  rw [Bool.and_eq_true, decide_eq_true_eq] at h
  have h0 : dd a = 0 := by rw [hd]; unfold layD; rw [if_pos (.inl (by omega))]
  unfold meets at h
  rw [h0] at h
  simp at h
theorem layU_end (f dd : Nat → Nat) (x : Int) (o c : Bool) (h : 256 ≤ x) : rcells (layU f dd x) o c = rcells (layC f dd) o c := rcells_ext fun a ha => by unfold layU; rw [if_pos (by omega)]
theorem layV_end (f dd : Nat → Nat) (x : Int) (h : 256 ≤ x) : layV f dd x = layK f dd := by
  unfold layV layK
  rw [Bool.eq_iff_iff, List.any_eq_true, List.any_eq_true]
  constructor
  · rintro ⟨a, ha, h1⟩; rw [Bool.and_eq_true] at h1; exact ⟨a, ha, h1.2⟩
  · rintro ⟨a, ha, h1⟩; exact ⟨a, ha, by rw [Bool.and_eq_true, decide_eq_true_eq]; exact ⟨by have := List.mem_range.1 ha; omega, h1⟩⟩
/-- behind the last of the dots -/
theorem lay_past (f dd : Nat → Nat) (X x : Int) (D : Nat → Nat) (s : Nat) (hd : dd = layD X D s) (h : X + (8 * s : Nat) ≤ x) : layU f dd x = layC f dd ∧ layV f dd x = layK f dd := by
  have key : ∀ a : Nat, ¬ (a : Int) < x → dd a = 0 := fun a ha => by rw [hd]; unfold layD; rw [if_pos (.inr (by omega))]
  refine ⟨?_, ?_⟩
  · funext a
    unfold layU
    split
    · rfl
    · rename_i ha
      unfold layC
      rw [key a ha]
      split
      · rename_i h1; rw [h1]; rfl
      · rfl
  · unfold layV layK
    rw [Bool.eq_iff_iff, List.any_eq_true, List.any_eq_true]
    constructor
    · rintro ⟨a, ha, h1⟩; rw [Bool.and_eq_true] at h1; exact ⟨a, ha, h1.2⟩
    · rintro ⟨a, ha, h1⟩
      refine ⟨a, ha, ?_⟩
      by_cases hx : (a : Int) < x
      · rw [Bool.and_eq_true, decide_eq_true_eq]; exact ⟨hx, h1⟩
      · unfold meets at h1; rw [key a hx] at h1; simp at h1
/-- one column: nothing turns -/
theorem lay_skip (f dd : Nat → Nat) (x : Int) (h : ∀ a : Nat, (a : Int) = x → dd a = 0) : layU f dd (x + 1) = layU f dd x ∧ layV f dd (x + 1) = layV f dd x := by
  refine ⟨?_, ?_⟩
  · funext a
    unfold layU
    by_cases h1 : (a : Int) < x
    · rw [if_pos (by omega), if_pos h1]
    · by_cases h2 : (a : Int) = x
      · rw [if_pos (by omega), if_neg h1]
        unfold layC
        rw [h a h2]
        split
        · rename_i h3; rw [h3]; rfl
        · rfl
      · rw [if_neg (by omega), if_neg h1]
  · unfold layV
    rw [Bool.eq_iff_iff, List.any_eq_true, List.any_eq_true]
    constructor
    · rintro ⟨a, ha, h1⟩
      rw [Bool.and_eq_true, decide_eq_true_eq] at h1
      refine ⟨a, ha, ?_⟩
      rw [Bool.and_eq_true, decide_eq_true_eq]
      refine ⟨?_, h1.2⟩
      by_cases h2 : (a : Int) = x
      · have := h1.2; unfold meets at this; rw [h a h2] at this; simp at this
      · omega
    · rintro ⟨a, ha, h1⟩
      rw [Bool.and_eq_true, decide_eq_true_eq] at h1
      exact ⟨a, ha, by rw [Bool.and_eq_true, decide_eq_true_eq]; exact ⟨by omega, h1.2⟩⟩
theorem layU_here (f dd : Nat → Nat) (x : Nat) : layU f dd (x : Int) x = f x := by unfold layU; rw [if_neg (by omega)]
theorem lay_new (f dd : Nat → Nat) (x d : Nat) (hd : dd x = d) (h0 : d ≠ 0) (hf : f x = 0) : layU f dd ((x : Int) + 1) = upd (layU f dd (x : Int)) x (16 + d) ∧ layV f dd ((x : Int) + 1) = layV f dd (x : Int) := by
  refine ⟨?_, ?_⟩
  · funext a
    unfold upd
    by_cases h2 : a = x
    · subst h2
      rw [if_pos rfl]
      unfold layU
      rw [if_pos (by omega)]
      unfold layC
      rw [if_pos hf, hd, if_neg h0]
    · rw [if_neg h2]
      unfold layU
      by_cases h1 : (a : Int) < (x : Int)
      · rw [if_pos (by omega), if_pos h1]
      · rw [if_neg (by omega), if_neg h1]
  · unfold layV
    rw [Bool.eq_iff_iff, List.any_eq_true, List.any_eq_true]
    constructor
    · rintro ⟨a, ha, h1⟩
      rw [Bool.and_eq_true, decide_eq_true_eq] at h1
      refine ⟨a, ha, ?_⟩
      rw [Bool.and_eq_true, decide_eq_true_eq]
      refine ⟨?_, h1.2⟩
      by_cases h2 : a = x
      · have := h1.2; unfold meets at this; rw [h2, hf] at this; simp at this
      · omega
    · rintro ⟨a, ha, h1⟩
      rw [Bool.and_eq_true, decide_eq_true_eq] at h1
      exact ⟨a, ha, by rw [Bool.and_eq_true, decide_eq_true_eq]; exact ⟨by omega, h1.2⟩⟩
theorem lay_hit (f dd : Nat → Nat) (x d : Nat) (hx : x < 256) (hd : dd x = d) (h0 : d ≠ 0) (hf : ¬ f x = 0) : layU f dd ((x : Int) + 1) = layU f dd (x : Int) ∧ layV f dd ((x : Int) + 1) = true := by
  refine ⟨?_, ?_⟩
  · funext a
    unfold layU
    by_cases h1 : (a : Int) < (x : Int)
    · rw [if_pos (by omega), if_pos h1]
    · by_cases h2 : a = x
      · subst h2
        rw [if_pos (by omega), if_neg h1]
        unfold layC
        rw [if_neg hf]
      · rw [if_neg (by omega), if_neg h1]
  · unfold layV
    rw [List.any_eq_true]
    refine ⟨x, List.mem_range.2 hx, ?_⟩
    rw [Bool.and_eq_true, decide_eq_true_eq]
    refine ⟨by omega, ?_⟩
    unfold meets
    rw [hd]
    simp [hf, h0]
theorem layD_at (X x : Int) (D : Nat → Nat) (s j t : Nat) (ht : t < s) (hj : j < 8) (hx : x = X + (j * s + t : Nat)) (a : Nat) (ha : (a : Int) = x) : layD X D s a = D j := by
  have e : (a : Int) - X = ((j * s + t : Nat) : Int) := by omega
  have hs : (j * s + t) / s = j := by
    rw [Nat.mul_comm, Nat.mul_add_div (by omega), Nat.div_eq_of_lt ht, Nat.add_zero]
  have hb : j * s + t < 8 * s := by
    have : (j + 1) * s ≤ 8 * s := Nat.mul_le_mul_right s (by omega)
    rw [Nat.add_mul] at this
    omega
  unfold layD
  rw [e, Int.toNat_natCast, hs, if_neg (by omega)]
theorem spCol_some : ∀ l : List Nat, ¬ spCnt l = 0 → ¬ spCol l = 0
  | [], h => absurd rfl h
  | e :: l, h => by
    have h' : ¬ (if e = 0 then spCnt l else 1 + spCnt l) = 0 := h
    show ¬ (if e = 0 then spCol l else 16 + e) = 0
    by_cases c : e = 0
    · rw [if_pos c] at h' ⊢
      exact spCol_some l h'
    · rw [if_neg c]; omega
/-- the line of some sprites, and one more -/
theorem col_more (l : List Nat) (d : Nat) : spCol (l ++ [d]) = if spCol l = 0 then (if d = 0 then 0 else 16 + d) else spCol l := by
  rw [spCol_snoc]
  by_cases h : spCnt l = 0
  · rw [if_pos h, if_pos (spCol_none l h)]
  · rw [if_neg h, if_neg (spCol_some l h)]
theorem layC_snoc (l : List Nat) (g : Nat → Nat → Nat) (i : Nat) (dd : Nat → Nat) (h : ∀ a, dd a = g a i) : layC (fun a => spCol (l.map (g a))) dd = fun a => spCol ((l ++ [i]).map (g a)) := by
  funext a
  show layC _ dd a = _
  rw [List.map_append, List.map_cons, List.map_nil, col_more]
  unfold layC
  rw [h]
theorem layK_snoc (l : List Nat) (g : Nat → Nat → Nat) (i : Nat) (dd : Nat → Nat) (h : ∀ a, dd a = g a i) : ((List.range 256).any (fun a => decide (2 ≤ spCnt (l.map (g a)))) || layK (fun a => spCol (l.map (g a))) dd) = (List.range 256).any fun a => decide (2 ≤ spCnt ((l ++ [i]).map (g a))) := by
  have key : ∀ a, (2 ≤ spCnt ((l ++ [i]).map (g a)) ↔ (2 ≤ spCnt (l.map (g a)) ∨ meets (fun a => spCol (l.map (g a))) dd a = true)) := by
    intro a
    rw [List.map_append, List.map_cons, List.map_nil, spCnt_snoc]
    unfold meets
    rw [h, Bool.and_eq_true, decide_eq_true_eq, decide_eq_true_eq]
    by_cases c0 : spCnt (l.map (g a)) = 0
    · have e1 := spCol_none _ c0
      by_cases c1 : g a i = 0
      · rw [if_pos c1]; constructor
        · intro h2; exact .inl h2
        · rintro (h2 | h2); exact h2; exact absurd c1 h2.2
      · rw [if_neg c1]; constructor
        · intro h2; omega
        · rintro (h2 | h2); omega; exact absurd e1 h2.1
    · have e1 := spCol_some _ c0
      by_cases c1 : g a i = 0
      · rw [if_pos c1]; constructor
        · intro h2; exact .inl h2
        · rintro (h2 | h2); exact h2; exact absurd c1 h2.2
      · rw [if_neg c1]; constructor
        · intro _; exact .inr ⟨e1, c1⟩
        · intro _; omega
  rw [Bool.eq_iff_iff, Bool.or_eq_true, List.any_eq_true, List.any_eq_true]
  unfold layK
  rw [List.any_eq_true]
  constructor
  · rintro (⟨a, ha, h1⟩ | ⟨a, ha, h1⟩)
    · exact ⟨a, ha, decide_eq_true ((key a).2 (.inl (of_decide_eq_true h1)))⟩
    · exact ⟨a, ha, decide_eq_true ((key a).2 (.inr h1))⟩
  · rintro ⟨a, ha, h1⟩
    rcases (key a).1 (of_decide_eq_true h1) with h2 | h2
    · exact .inl ⟨a, ha, decide_eq_true h2⟩
    · exact .inr ⟨a, ha, h2⟩

end Go.Proofs.Ytcefgcoibppdaaa
