/-
  A piece found in a text, and texts laid in its place: the code's way (cut) and the document's (replace). Nothing here speaks of the program.
-/
import Derived.Test.YtaiceidmcelapaaDoorNamSpec2
import Derived.Test.YtaiceidmcelapaaDoorNamRepl
import Derived.Test.YtaiceidmcelapaaDoorNamNames
set_option linter.unusedSimpArgs false
set_option linter.unusedVariables false
namespace Go.Proofs.YtaiceidmcelapaaDoor

theorem index_skip (h : UInt8) (m' : Tx) : ∀ (a r : Tx), h ∉ a → Lib.index (a ++ r) (h :: m') = if Lib.index r (h :: m') = -1 then -1 else (a.length : Int) + Lib.index r (h :: m')
  | [], r, _ => by
    rw [List.nil_append]
    split
    · assumption
    · simp
  | c :: a, r, hc => by
    have ih := index_skip h m' a r (fun hx => hc (List.mem_cons_of_mem _ hx))
    have hne : (h :: m').isPrefixOf (c :: (a ++ r)) = false := by
      have : (h == c) = false := by rw [beq_eq_false_iff_ne]; rintro rfl; exact hc (List.mem_cons_self ..)
      simp [List.isPrefixOf, this]
    rw [List.cons_append, Lib.index, hne, if_neg (by decide), ih]
    by_cases hr : Lib.index r (h :: m') = -1
    · rw [if_pos hr, if_pos hr]; rfl
    · have hge := Lib.index_ge r (h :: m')
      have hx : ((a.length : Int) + Lib.index r (h :: m') == -1) = false := by rw [beq_eq_false_iff_ne]; omega
      rw [if_neg hr, if_neg hr, hx, if_neg (by decide), List.length_cons]
      omega
theorem index_none (h : UInt8) (m' a : Tx) (ha : h ∉ a) : Lib.index a (h :: m') = -1 := by
  have h1 := index_skip h m' a [] ha
  rw [List.append_nil] at h1
  have h2 : Lib.index [] (h :: m') = -1 := by rw [Lib.index]; rfl
  rw [h1, if_pos h2]
theorem index_self (h : UInt8) (m' c : Tx) : Lib.index ((h :: m') ++ c) (h :: m') = 0 := by
  have hp : (h :: m').isPrefixOf ((h :: m') ++ c) = true := by
    rw [List.isPrefixOf_iff_prefix]; exact List.prefix_append _ _
  rw [List.cons_append] at hp ⊢
  rw [Lib.index, hp, if_pos rfl]
theorem cut_hit (h : UInt8) (m' a c : Tx) (ha : h ∉ a) : Lib.cut (a ++ ((h :: m') ++ c)) (h :: m') = (a, c, true) := by
  have hi : Lib.index (a ++ ((h :: m') ++ c)) (h :: m') = (a.length : Int) := by
    rw [index_skip h m' a _ ha, index_self, if_neg (by decide)]; omega
  rw [Lib.cut, hi, if_pos (by omega)]
  have e1 : (a ++ ((h :: m') ++ c)).take (a.length : Int).toNat = a := by simp
  have e2 : (a ++ ((h :: m') ++ c)).drop ((a.length : Int).toNat + (h :: m').length) = c := by
    rw [Int.toNat_natCast, ← List.append_assoc, show a.length + (h :: m').length = (a ++ (h :: m')).length by simp, List.drop_left]
  rw [e1, e2]
theorem cut_miss (s m : Tx) (hi : Lib.index s m = -1) : Lib.cut s m = (s, [], false) := by
  rw [Lib.cut, hi, if_neg (by decide)]
theorem step_hit (bs : List Nat) (h : UInt8) (m' a c : Tx) (nx : Nat) (ha : h ∉ a) : cStep bs (h :: m') (a ++ ((h :: m') ++ c), nx) = (a ++ (cText (h :: m') (bs.getD nx 0) (bs.getD (nx + 1) 0) ++ c), nx + cSize (h :: m')) := by
  rw [cStep]
  show (if (Lib.cut (a ++ ((h :: m') ++ c)) (h :: m')).2.2 = true then _ else _) = _
  rw [cut_hit h m' a c ha, if_pos rfl]
theorem step_miss (bs : List Nat) (m s : Tx) (nx : Nat) (hi : Lib.index s m = -1) : cStep bs m (s, nx) = (s, nx) := by
  rw [cStep]
  show (if (Lib.cut s m).2.2 = true then _ else _) = _
  rw [cut_miss s m hi, if_neg (by show ¬ false = true; decide)]
theorem index_nn (a c : Tx) (ha : 110 ∉ a) (hc : 110 ∉ c) : Lib.index (a ++ (110 :: c)) [110, 110] = -1 := by
  have h2 : Lib.index (110 :: c) [110, 110] = -1 := by
    have hp : ([110, 110] : Tx).isPrefixOf (110 :: c) = false := by
      cases c with
      | nil => rfl
      | cons x r =>
        have : ((110 : UInt8) == x) = false := by rw [beq_eq_false_iff_ne]; rintro rfl; exact hc (List.mem_cons_self ..)
        simp [List.isPrefixOf, this]
    rw [Lib.index, hp, if_neg (by decide), index_none 110 [110] c hc]
    rfl
  rw [index_skip 110 [110] a _ ha, if_pos h2]

/-- the document's -/
theorem repl_skip (h : UInt8) (m' by' : Tx) : ∀ (a r : Tx), h ∉ a → rReplace (a ++ r) (h :: m') by' = a ++ rReplace r (h :: m') by'
  | [], r, _ => rfl
  | c :: a, r, hc => by
    have hne : (h :: m').isPrefixOf (c :: (a ++ r)) = false := by
      have : (h == c) = false := by rw [beq_eq_false_iff_ne]; rintro rfl; exact hc (List.mem_cons_self ..)
      simp [List.isPrefixOf, this]
    rw [List.cons_append, repl_miss c _ _ by' hne, repl_skip h m' by' a r (fun hx => hc (List.mem_cons_of_mem _ hx))]
    rfl
theorem repl_none (h : UInt8) (m' by' a : Tx) (ha : h ∉ a) : rReplace a (h :: m') by' = a := by
  have := repl_skip h m' by' a [] ha
  rwa [List.append_nil, repl_nil, List.append_nil] at this
theorem repl_one (h : UInt8) (m' by' a c : Tx) (ha : h ∉ a) (hc : h ∉ c) : rReplace (a ++ ((h :: m') ++ c)) (h :: m') by' = a ++ (by' ++ c) := by
  have hp : (h :: m').isPrefixOf ((h :: m') ++ c) = true := by
    rw [List.isPrefixOf_iff_prefix]; exact List.prefix_append _ _
  rw [repl_skip h m' by' a _ ha, repl_hit _ _ by' (by simp) hp (by simp), List.drop_left, repl_none h m' by' c hc]
theorem repl_nn (by' a c : Tx) (ha : 110 ∉ a) (hc : 110 ∉ c) : rReplace (a ++ (110 :: c)) [110, 110] by' = a ++ (110 :: c) := by
  have hp : ([110, 110] : Tx).isPrefixOf (110 :: c) = false := by
    cases c with
    | nil => rfl
    | cons x r =>
      have : ((110 : UInt8) == x) = false := by rw [beq_eq_false_iff_ne]; rintro rfl; exact hc (List.mem_cons_self ..)
      simp [List.isPrefixOf, this]
  rw [repl_skip 110 [110] by' a _ ha, repl_miss 110 c _ by' hp, repl_none 110 [110] by' c hc]
theorem has_none (h : UInt8) (m' a : Tx) (ha : h ∉ a) : rHas a (h :: m') = false := by
  rw [rHas, repl_none h m' [] a ha]; simp
theorem has_nn (a c : Tx) (ha : 110 ∉ a) (hc : 110 ∉ c) : rHas (a ++ (110 :: c)) [110, 110] = false := by
  rw [rHas, repl_nn [] a c ha hc]; simp
theorem has_one (h : UInt8) (m' a c : Tx) (ha : h ∉ a) (hc : h ∉ c) : rHas (a ++ ((h :: m') ++ c)) (h :: m') = true := by
  rw [rHas, repl_one h m' [] a c ha hc]
  have : (a ++ ([] ++ c) == a ++ ((h :: m') ++ c)) = false := by
    rw [beq_eq_false_iff_ne]
    intro he
    have := congrArg List.length he
    simp at this
    omega
  rw [this]; rfl
/-- no letter of a mark but '+' -/
def Cl (t : Tx) : Prop := 110 ∉ t ∧ 101 ∉ t
theorem Cl.append {a b : Tx} (ha : Cl a) (hb : Cl b) : Cl (a ++ b) := ⟨fun h => (List.mem_append.1 h).elim ha.1 hb.1, fun h => (List.mem_append.1 h).elim ha.2 hb.2⟩
theorem hexd_cl (n : Nat) (hn : n < 16) : hexd n ≠ 110 ∧ hexd n ≠ 101 := by
  have : ∀ n < 16, hexd n ≠ 110 ∧ hexd n ≠ 101 := by decide +kernel
  exact this n hn
theorem cl_hex (v : Nat) (hv : v < 256) : Cl (hex2 v) := by
  have h1 := hexd_cl (v / 16) (by omega)
  have h2 := hexd_cl (v % 16) (by omega)
  refine ⟨?_, ?_⟩ <;> (intro h; rw [hex2] at h; simp only [List.mem_cons, List.not_mem_nil, or_false] at h; rcases h with h | h)
  · exact h1.1 h.symm
  · exact h2.1 h.symm
  · exact h1.2 h.symm
  · exact h2.2 h.symm
theorem cl_sgn (v : Nat) (hv : v < 256) : Cl (sgn v) := by
  have hall : ∀ v < 256, (sgn v).all (fun x => x != 110 && x != 101) = true := by decide +kernel
  have h := List.all_eq_true.1 (hall v hv)
  refine ⟨fun hm => ?_, fun hm => ?_⟩
  · have := h _ hm; simp at this
  · have := h _ hm; simp at this

end Go.Proofs.YtaiceidmcelapaaDoor
