/-
  The document's replace and split, as functions over lists: what a loop needs. Nothing here speaks of the program.
-/
import Derived.Test.YtaiceidmcelapaaDoorNamSpec
set_option linter.unusedSimpArgs false
set_option linter.unusedVariables false
namespace Go.Proofs.YtaiceidmcelapaaDoor

theorem repl_fuel (old by' : Tx) (ho : old ≠ []) : ∀ (n : Nat) (l : Tx), l.length ≤ n → ∀ f g, l.length ≤ f → l.length ≤ g → rRepl f l old by' = rRepl g l old by' := by
  intro n
  induction n with
  | zero =>
    intro l hl f g _ _
    have : l = [] := List.length_eq_zero_iff.1 (by omega)
    subst this
    cases f <;> cases g <;> rfl
  | succ n ih =>
    intro l hl f g hf hg
    cases l with
    | nil => cases f <;> cases g <;> rfl
    | cons c s =>
      simp only [List.length_cons] at hl hf hg
      obtain ⟨f', rfl⟩ : ∃ f', f = f' + 1 := ⟨f - 1, by omega⟩
      obtain ⟨g', rfl⟩ : ∃ g', g = g' + 1 := ⟨g - 1, by omega⟩
      have h1 : 0 < old.length := List.length_pos_iff.2 ho
      have h2 : ((c :: s).drop old.length).length ≤ s.length := by simp only [List.length_drop, List.length_cons]; omega
      show (if old.isPrefixOf (c :: s) then _ else _) = (if old.isPrefixOf (c :: s) then _ else _)
      rw [ih s (by omega) f' g' (by omega) (by omega), ih _ (by omega) f' g' (by omega) (by omega)]
theorem repl_nil (old by' : Tx) : rReplace [] old by' = [] := rfl
theorem repl_hit (s old by' : Tx) (ho : old ≠ []) (h : old.isPrefixOf s = true) (hs : s ≠ []) : rReplace s old by' = by' ++ rReplace (s.drop old.length) old by' := by
  cases s with
  | nil => exact absurd rfl hs
  | cons c t =>
    have h1 : 0 < old.length := List.length_pos_iff.2 ho
    have h2 : ((c :: t).drop old.length).length ≤ t.length := by simp only [List.length_drop, List.length_cons]; omega
    show (if old.isPrefixOf (c :: t) then by' ++ rRepl t.length ((c :: t).drop old.length) old by' else _) = _
    rw [if_pos h, rReplace, repl_fuel old by' ho _ _ (Nat.le_refl _) t.length _ h2 (Nat.le_refl _)]
theorem repl_miss (c : UInt8) (t old by' : Tx) (h : old.isPrefixOf (c :: t) = false) : rReplace (c :: t) old by' = c :: rReplace t old by' := by
  show (if old.isPrefixOf (c :: t) then _ else c :: rRepl t.length t old by') = _
  rw [if_neg (by rw [h]; decide)]
  rfl
theorem prefix_take (old l : Tx) : (l.take old.length = old) ↔ old.isPrefixOf l = true := by
  rw [List.isPrefixOf_iff_prefix, List.prefix_iff_eq_take]
  exact eq_comm
theorem prefix_short (old l : Tx) (h : l.length < old.length) : old.isPrefixOf l = false := by
  cases hp : old.isPrefixOf l with
  | false => rfl
  | true =>
    have := (List.isPrefixOf_iff_prefix.1 hp).length_le
    omega
theorem drop_at (s : Tx) (k : Nat) (hk : k < s.length) : s.drop k = s.getD k 0 :: s.drop (k + 1) := by
  rw [List.drop_eq_getElem_cons hk, List.getD_eq_getElem?_getD, List.getElem?_eq_getElem hk]
  rfl
theorem take_one (s : Tx) (k : Nat) (hk : k < s.length) : (s.drop k).take (k + 1 - k) = [s.getD k 0] := by
  rw [drop_at s k hk, show k + 1 - k = 1 by omega]
  rfl
theorem len_repl (old by' : Tx) (m : Nat) (h1 : 1 ≤ m) (hb : by'.length ≤ m) (ho : old ≠ []) : ∀ (n : Nat) (s : Tx), s.length ≤ n → (rReplace s old by').length ≤ m * s.length := by
  intro n
  induction n with
  | zero => intro s hs; have : s = [] := List.length_eq_zero_iff.1 (by omega); subst this; simp [rReplace, rRepl]
  | succ n ih =>
    intro s hs
    cases s with
    | nil => simp [rReplace, rRepl]
    | cons c t =>
      simp only [List.length_cons] at hs
      cases hp : old.isPrefixOf (c :: t) with
      | true =>
        have h0 : 0 < old.length := List.length_pos_iff.2 ho
        have h2 : ((c :: t).drop old.length).length ≤ t.length := by simp only [List.length_drop, List.length_cons]; omega
        have h3 := ih ((c :: t).drop old.length) (by omega)
        rw [repl_hit _ old by' ho hp (by simp), List.length_append, List.length_cons, Nat.mul_add]
        have h4 : m * ((c :: t).drop old.length).length ≤ m * t.length := Nat.mul_le_mul_left m h2
        omega
      | false =>
        have h3 := ih t (by omega)
        rw [repl_miss c t old by' hp, List.length_cons, List.length_cons, Nat.mul_add]
        omega

end Go.Proofs.YtaiceidmcelapaaDoor
