/-
  The names of bytes: the code's are the document's; how long; what stands behind doesn't matter. Nothing here speaks of the program.
-/
import Derived.Test.YtaiceidmcelapaaDoorNamKd
set_option linter.unusedSimpArgs false
set_option linter.unusedVariables false
namespace Go.Proofs.YtaiceidmcelapaaDoor

theorem max_eq (a b : Nat) (h : b ≤ a) : max a b = a := Nat.max_eq_left h
theorem out_low (bs : List Nat) (nx : Nat) (k : Kd) : nx ≤ (k.out bs nx).2 ∧ (k.out bs nx).2 ≤ nx + 2 := by
  cases k <;> (show nx ≤ _ ∧ _ ≤ nx + 2) <;> (first | exact ⟨Nat.le_refl _, Nat.le_add_right _ _⟩ | exact ⟨Nat.le_add_right _ _, Nat.le_refl _⟩ | exact ⟨Nat.le_add_right _ _, Nat.add_le_add_left (by decide) _⟩)
/-- what a spot answers -/
def spotName (bs : List Nat) (p O R : Nat) : Tx × Nat := ((cFold bs (cPat (p : Int) (bs.getD O 0), R) 4).1, max (cFold bs (cPat (p : Int) (bs.getD O 0), R) 4).2 (O + 1))
theorem cName_spot (bs : List Nat) : cName bs = spotName bs (cFind (bs.getD 0 0) (bs.getD 1 0)).1 (cFind (bs.getD 0 0) (bs.getD 1 0)).2.1 (cFind (bs.getD 0 0) (bs.getD 1 0)).2.2 := rfl
/-- pages, where the op stands, and what comes behind it -/
def SpotOk (p O R : Nat) : Prop := (p = 0 ∧ O = 0 ∧ R = 1) ∨ (1 ≤ p ∧ p ≤ 4 ∧ O = 1 ∧ R = 2) ∨ (5 ≤ p ∧ p ≤ 6 ∧ O = 3 ∧ R = 2)
theorem spot_ref (bs : List Nat) (hb : ∀ i, bs.getD i 0 < 256) (p O R : Nat) (h : SpotOk p O R) : spotName bs p O R = rTail bs (p : Int) (O + 1) (rPat (p : Int) (bs.getD O 0)) := by
  have hp : p < 7 := by rcases h with h | h | h <;> omega
  obtain ⟨k, hk1, hk2, hk3⟩ := kind_of p (bs.getD O 0) hp (hb O)
  rw [← pat_eq _ _ (hb O), spotName, ← hk1, kd_code bs hb R k hk2, kd_ref bs hb p R (O + 1) k hk2 hk3 (by rcases h with h | h | h <;> omega) (by rcases h with h | h | h <;> omega)]
  have hl := out_low bs R k
  by_cases h4 : p ≤ 4
  · rw [if_pos h4, max_eq _ _ (by rcases h with h | h | h <;> omega)]
  · rw [if_neg h4]
    have h5 : (k.out bs R).2 ≤ O + 1 := by rcases h with h | h | h <;> omega
    rw [Nat.max_eq_right h5]
theorem spot_len (bs : List Nat) (hb : ∀ i, bs.getD i 0 < 256) (p O R : Nat) (h : SpotOk p O R) : 1 ≤ (spotName bs p O R).2 ∧ (spotName bs p O R).2 ≤ 4 ∧ O + 1 ≤ (spotName bs p O R).2 := by
  have hp : p < 7 := by rcases h with h | h | h <;> omega
  obtain ⟨k, hk1, hk2, hk3⟩ := kind_of p (bs.getD O 0) hp (hb O)
  rw [spotName, ← hk1, kd_code bs hb R k hk2]
  have hl := out_low bs R k
  rcases h with h | h | h <;> omega
theorem kd_same (bs cs : List Nat) (nx : Nat) (k : Kd) (h : ∀ i < (k.out bs nx).2, cs.getD i 0 = bs.getD i 0) : k.out cs nx = k.out bs nx := by
  cases k with
  | k0 s => rfl
  | k1 a c => rw [Kd.out, Kd.out, h nx (by show nx < nx + 1; omega)]
  | k2 a c d => rw [Kd.out, Kd.out, h nx (by show nx < nx + 2; omega), h (nx + 1) (by show nx + 1 < nx + 2; omega)]
  | k3 a c => rw [Kd.out, Kd.out, h nx (by show nx < nx + 2; omega), h (nx + 1) (by show nx + 1 < nx + 2; omega)]
  | k4 a c => rw [Kd.out, Kd.out, h nx (by show nx < nx + 1; omega)]
  | k5 a c => rw [Kd.out, Kd.out, h nx (by show nx < nx + 1; omega)]
theorem spot_same (bs cs : List Nat) (hb : ∀ i, bs.getD i 0 < 256) (hc : ∀ i, cs.getD i 0 < 256) (p O R : Nat) (h : SpotOk p O R) (hs : ∀ i < (spotName bs p O R).2, cs.getD i 0 = bs.getD i 0) : spotName cs p O R = spotName bs p O R := by
  have hp : p < 7 := by rcases h with h | h | h <;> omega
  obtain ⟨k, hk1, hk2, hk3⟩ := kind_of p (bs.getD O 0) hp (hb O)
  have hl := spot_len bs hb p O R h
  have e0 : cs.getD O 0 = bs.getD O 0 := hs O (by omega)
  rw [spotName, ← hk1, kd_code bs hb R k hk2] at hs
  rw [spotName, spotName, e0, ← hk1, kd_code bs hb R k hk2, kd_code cs hc R k hk2, kd_same bs cs R k (fun i hi => hs i (by show i < max _ _; omega))]
theorem find_ok (a d : Nat) : SpotOk (cFind a d).1 (cFind a d).2.1 (cFind a d).2.2 := by
  have hb : ∀ p q, 1 ≤ p → p ≤ 4 → 5 ≤ q → q ≤ 6 → SpotOk (cBehind d p q).1 (cBehind d p q).2.1 (cBehind d p q).2.2 := by
    intro p q h1 h2 h3 h4
    unfold cBehind
    split
    · exact .inl ⟨rfl, rfl, rfl⟩
    · split
      · exact .inr (.inr ⟨h3, h4, rfl, rfl⟩)
      · exact .inr (.inl ⟨h1, h2, rfl, rfl⟩)
  unfold cFind
  split
  · exact .inr (.inl (by decide))
  · split
    · exact .inr (.inl (by decide))
    · split
      · exact hb 3 5 (by decide) (by decide) (by decide) (by decide)
      · split
        · exact hb 4 6 (by decide) (by decide) (by decide) (by decide)
        · exact .inl ⟨rfl, rfl, rfl⟩
/-- alone: a prefix ahead of a prefix -/
def Lone (a d : Nat) : Prop := (a = 221 ∨ a = 253) ∧ (d = 221 ∨ d = 237 ∨ d = 253)
theorem find_lone (a d : Nat) (h : Lone a d) : cFind a d = (0, 0, 1) ∧ (rPage a d).1 = -1 := by
  obtain ⟨h1, h2⟩ := h
  rcases h1 with rfl | rfl
  · refine ⟨?_, ?_⟩
    · show cBehind d 3 5 = _; rw [cBehind, if_pos h2]
    · show (rBehind d 3).1 = _; rw [rBehind, if_pos h2]
  · refine ⟨?_, ?_⟩
    · show cBehind d 4 6 = _; rw [cBehind, if_pos h2]
    · show (rBehind d 4).1 = _; rw [rBehind, if_pos h2]
theorem find_page (a d : Nat) (h : ¬ Lone a d) : (rPage a d).1 = ((cFind a d).1 : Int) ∧ (rPage a d).2 = (cFind a d).2.1 := by
  have hb : (a = 221 ∨ a = 253) → ∀ p q : Nat, q = p + 2 → (rBehind d (p : Int)).1 = ((cBehind d p q).1 : Int) ∧ (rBehind d (p : Int)).2 = (cBehind d p q).2.1 := by
    intro ha p q hq
    have h2 : ¬ (d = 221 ∨ d = 237 ∨ d = 253) := fun hd => h ⟨ha, hd⟩
    rw [rBehind, cBehind, if_neg h2, if_neg h2]
    split
    · exact ⟨by subst hq; show (p : Int) + 2 = ((p + 2 : Nat) : Int); omega, rfl⟩
    · exact ⟨rfl, rfl⟩
  unfold rPage cFind
  split
  · exact ⟨rfl, rfl⟩
  · split
    · exact ⟨rfl, rfl⟩
    · split
      · rename_i h3; exact hb (.inl h3) 3 5 rfl
      · split
        · rename_i h4; exact hb (.inr h4) 4 6 rfl
        · exact ⟨rfl, rfl⟩
instance (a d : Nat) : Decidable (Lone a d) := inferInstanceAs (Decidable ((a = 221 ∨ a = 253) ∧ (d = 221 ∨ d = 237 ∨ d = 253)))
theorem lone_name (bs : List Nat) (h : Lone (bs.getD 0 0) (bs.getD 1 0)) : cName bs = (rPlain (bs.getD 0 0), 1) := by
  rw [cName_spot, (find_lone _ _ h).1]
  have hc : ∀ a, a = 221 ∨ a = 253 → cPat 0 a = rPlain a ∧ 43 ∉ rPlain a ∧ 110 ∉ rPlain a ∧ 101 ∉ rPlain a := by
    intro a ha
    rcases ha with rfl | rfl <;> decide +kernel
  obtain ⟨h0, h1, h2, h3⟩ := hc _ h.1
  have e : cFold bs (cPat ((0 : Nat) : Int) (bs.getD 0 0), 1) 4 = (rPlain (bs.getD 0 0), 1) := by
    have h0' : cPat ((0 : Nat) : Int) (bs.getD 0 0) = rPlain (bs.getD 0 0) := h0
    rw [h0', fold4, miss_d bs _ _ h1, miss_nn bs _ _ h2, miss_n bs _ _ h2, miss_e bs _ _ h3]
  show spotName bs 0 0 1 = _
  rw [spotName, e]; rfl
theorem name_same (bs : List Nat) (hb : ∀ i, bs.getD i 0 < 256) : cName bs = rName bs := by
  by_cases h : Lone (bs.getD 0 0) (bs.getD 1 0)
  · rw [lone_name bs h, rName, (find_lone _ _ h).2, if_pos (by decide)]
  · obtain ⟨h1, h2⟩ := find_page _ _ h
    rw [cName_spot, spot_ref bs hb _ _ _ (find_ok _ _), rName, h1, h2, if_neg (by omega)]
theorem name_len (bs : List Nat) (hb : ∀ i, bs.getD i 0 < 256) : 1 ≤ (cName bs).2 ∧ (cName bs).2 ≤ 4 := by
  have h := spot_len bs hb _ _ _ (find_ok (bs.getD 0 0) (bs.getD 1 0))
  exact ⟨h.1, h.2.1⟩
/-- what the name hangs on -/
theorem name_at_all (bs cs : List Nat) (h : ∀ i, cs.getD i 0 = bs.getD i 0) : cName cs = cName bs := by
  have hf : ∀ st k, cFold cs st k = cFold bs st k := by
    intro st k
    induction k with
    | zero => rfl
    | succ k ih => rw [cFold, cFold, ih, cStep, cStep, h, h]
  rw [cName_spot, cName_spot, spotName, spotName, h 0, h 1, h, hf]
theorem name_ends (bs cs : List Nat) (hb : ∀ i, bs.getD i 0 < 256) (hc : ∀ i, cs.getD i 0 < 256) (h : ∀ i < (cName bs).2, cs.getD i 0 = bs.getD i 0) :
    ((cName bs).2 = 1 ∧ (bs.getD 0 0 = 221 ∨ bs.getD 0 0 = 253)) ∨ cName cs = cName bs := by
  have hl := name_len bs hb
  have e0 : cs.getD 0 0 = bs.getD 0 0 := h 0 (by omega)
  by_cases ha : bs.getD 0 0 = 221 ∨ bs.getD 0 0 = 253
  · by_cases hd : Lone (bs.getD 0 0) (bs.getD 1 0)
    · exact .inl ⟨by rw [lone_name bs hd], ha⟩
    · right
      have hO : 1 ≤ (cFind (bs.getD 0 0) (bs.getD 1 0)).2.1 := by
        have h2 : ¬ (bs.getD 1 0 = 221 ∨ bs.getD 1 0 = 237 ∨ bs.getD 1 0 = 253) := fun hx => hd ⟨ha, hx⟩
        have hB : ∀ p q, 1 ≤ (cBehind (bs.getD 1 0) p q).2.1 := by
          intro p q
          rw [cBehind, if_neg h2]
          split
          · exact (by decide : 1 ≤ 3)
          · exact Nat.le_refl 1
        rcases ha with ha | ha <;> rw [ha]
        · exact hB 3 5
        · exact hB 4 6
      have hs := spot_len bs hb _ _ _ (find_ok (bs.getD 0 0) (bs.getD 1 0))
      have e1 : cs.getD 1 0 = bs.getD 1 0 := h 1 (by rw [cName_spot]; omega)
      rw [cName_spot cs, e0, e1]
      exact spot_same bs cs hb hc _ _ _ (find_ok _ _) h
  · right
    have hf : ∀ d, cFind (bs.getD 0 0) d = cFind (bs.getD 0 0) (bs.getD 1 0) := by
      intro d
      unfold cFind
      split
      · rfl
      · split
        · rfl
        · rw [if_neg (fun hx => ha (.inl hx)), if_neg (fun hx => ha (.inr hx)), if_neg (fun hx => ha (.inl hx)), if_neg (fun hx => ha (.inr hx))]
    rw [cName_spot cs, e0, hf (cs.getD 1 0)]
    exact spot_same bs cs hb hc _ _ _ (find_ok _ _) h

end Go.Proofs.YtaiceidmcelapaaDoor
