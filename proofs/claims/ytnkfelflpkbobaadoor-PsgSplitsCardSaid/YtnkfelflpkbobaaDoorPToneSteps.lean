/-
  Package tone's Step, and the document's, each by one contract. No condition but the range that is named in each.
-/
import Derived.Test.YtnkfelflpkbobaaDoorWords
import Derived.Test.YtnkfelflpkbobaaDoorWordsMore
namespace Go.Proofs.YtnkfelflpkbobaaDoor.tone
open Go.RowKit

/-- Count, and Out, behind one step; was it turned about? -/
def nextC (p c : Int) : Int := if 1 < c then c - 1 else if p = 0 then 1 else p
def nextO (p c : Int) (o : Bool) : Bool := if 1 < c then o else if p < 2 then true else !o
def turns (p c : Int) : Bool := decide (c ≤ 1 ∧ 2 ≤ p)

set_option maxHeartbeats 800000 in
theorem step_any (p c : Int) (o : Bool) (hc : c ≤ 1023) (w : World) :
    Calls Tryd.prog 29 #[.agg #[.int .i64 p, .int .i64 c, .bool o]] w fun e w' =>
      e = .returned (.tuple #[.agg #[.int .i64 p, .int .i64 (nextC p c), .bool (nextO p c o)], .bool (turns p c)]) ∧ Below w.heap.size w w' := by
  by_cases h1 : 1 < c
  · have e1 : Hid (nextC p c = c - 1) := by show _ = _; unfold nextC; rw [if_pos h1]
    have e2 : Hid (nextO p c o = o) := by show _ = _; unfold nextO; rw [if_pos h1]
    have e3 : Hid (turns p c = false) := by show _ = _; unfold turns; simp; omega
    go_enter Tryd.func29, Tryd.ntmps29
    go_wp2
    rw [e1.out, e2.out, e3.out]
    refine bodyPost_ret (v := .tuple #[.agg #[.int .i64 p, .int .i64 (c - 1), .bool o], .bool false]) (by simp [results, Tryd.results29, go_sem]) rfl ⟨rfl, ?_⟩
    repeat (first | exact Below.refl _ _ | refine Below.alloc ?_ (by simp) _ | refine Below.setCell ?_ (by simp) _)
  · by_cases h0 : p = 0
    · subst h0
      have e1 : Hid (nextC 0 c = 1) := by show _ = _; unfold nextC; rw [if_neg h1]; rfl
      have e2 : Hid (nextO 0 c o = true) := by show _ = _; unfold nextO; rw [if_neg h1]; rfl
      have e3 : Hid (turns 0 c = false) := by show _ = _; unfold turns; simp
      go_enter Tryd.func29, Tryd.ntmps29
      go_wp2
      rw [e1.out, e2.out, e3.out]
      refine bodyPost_ret (v := .tuple #[.agg #[.int .i64 0, .int .i64 1, .bool true], .bool false]) (by simp [results, Tryd.results29, go_sem]) rfl ⟨rfl, ?_⟩
      repeat (first | exact Below.refl _ _ | refine Below.alloc ?_ (by simp) _ | refine Below.setCell ?_ (by simp) _)
    · have e1 : Hid (nextC p c = p) := by show _ = _; unfold nextC; rw [if_neg h1, if_neg h0]
      by_cases h2 : p < 2
      · have e2 : Hid (nextO p c o = true) := by show _ = _; unfold nextO; rw [if_neg h1, if_pos h2]
        have e3 : Hid (turns p c = false) := by show _ = _; unfold turns; simp; omega
        go_enter Tryd.func29, Tryd.ntmps29
        go_wp2
        rw [e1.out, e2.out, e3.out]
        refine bodyPost_ret (v := .tuple #[.agg #[.int .i64 p, .int .i64 p, .bool true], .bool false]) (by simp [results, Tryd.results29, go_sem]) rfl ⟨rfl, ?_⟩
        repeat (first | exact Below.refl _ _ | refine Below.alloc ?_ (by simp) _ | refine Below.setCell ?_ (by simp) _)
      · have e2 : Hid (nextO p c o = !o) := by show _ = _; unfold nextO; rw [if_neg h1, if_neg h2]
        have e3 : Hid (turns p c = true) := by show _ = _; unfold turns; simp; omega
        go_enter Tryd.func29, Tryd.ntmps29
        go_wp2
        rw [e1.out, e2.out, e3.out]
        refine bodyPost_ret (v := .tuple #[.agg #[.int .i64 p, .int .i64 p, .bool (!o)], .bool true]) (by simp [results, Tryd.results29, go_sem]) rfl ⟨rfl, ?_⟩
        repeat (first | exact Below.refl _ _ | refine Below.alloc ?_ (by simp) _ | refine Below.setCell ?_ (by simp) _)

set_option maxHeartbeats 800000 in
theorem rstep_any (p c : Int) (o : Bool) (hp : 0 ≤ p) (hc : c ≤ 1023) (w : World) :
    Calls Tryd.prog 31 #[.agg #[.int .i64 p, .int .i64 c, .bool o]] w fun e w' =>
      e = .returned (.tuple #[.agg #[.int .i64 p, .int .i64 (nextC p c), .bool (nextO p c o)], .bool (turns p c)]) ∧ Below w.heap.size w w' := by
  by_cases h1 : 1 < c
  · have e1 : Hid (nextC p c = c - 1) := by show _ = _; unfold nextC; rw [if_pos h1]
    have e2 : Hid (nextO p c o = o) := by show _ = _; unfold nextO; rw [if_pos h1]
    have e3 : Hid (turns p c = false) := by show _ = _; unfold turns; simp; omega
    go_enter Tryd.func31, Tryd.ntmps31
    go_wp2
    rw [e1.out, e2.out, e3.out]
    refine bodyPost_ret (v := .tuple #[.agg #[.int .i64 p, .int .i64 (c - 1), .bool o], .bool false]) (by simp [results, Tryd.results31, go_sem]) rfl ⟨rfl, ?_⟩
    repeat (first | exact Below.refl _ _ | refine Below.alloc ?_ (by simp) _ | refine Below.setCell ?_ (by simp) _)
  · by_cases h2 : p = 0 ∨ p = 1
    · rcases h2 with rfl | rfl
      case' inl => obtain ⟨z, hz⟩ : ∃ z : Int, z = 0 := ⟨_, rfl⟩
      case' inr => obtain ⟨z, hz⟩ : ∃ z : Int, z = 1 := ⟨_, rfl⟩
      all_goals
        have e1 : Hid (nextC z c = 1) := by show _ = _; unfold nextC; rw [if_neg h1, hz]; rfl
        have e2 : Hid (nextO z c o = true) := by show _ = _; unfold nextO; rw [if_neg h1, hz]; rfl
        have e3 : Hid (turns z c = false) := by show _ = _; unfold turns; rw [hz]; simp
        rw [hz] at e1 e2 e3
        clear hz
        go_enter Tryd.func31, Tryd.ntmps31
        go_wp2
        rw [e1.out, e2.out, e3.out]
        refine bodyPost_ret (v := .tuple #[.agg #[.int .i64 _, .int .i64 1, .bool true], .bool false]) (by simp [results, Tryd.results31, go_sem]) rfl ⟨rfl, ?_⟩
        repeat (first | exact Below.refl _ _ | refine Below.alloc ?_ (by simp) _ | refine Below.setCell ?_ (by simp) _)
    · have h0 : ¬ p = 0 := fun h => h2 (.inl h)
      have h3 : ¬ p = 1 := fun h => h2 (.inr h)
      have e1 : Hid (nextC p c = p) := by show _ = _; unfold nextC; rw [if_neg h1, if_neg h0]
      have e2 : Hid (nextO p c o = !o) := by show _ = _; unfold nextO; rw [if_neg h1, if_neg (by omega)]
      have e3 : Hid (turns p c = true) := by show _ = _; unfold turns; simp; omega
      have b0 : (p == 0) = false := by simpa using h0
      have b1 : (p == 1) = false := by simpa using h3
      clear h2
      go_enter Tryd.func31, Tryd.ntmps31
      go_wp2
      rw [e1.out, e2.out, e3.out]
      refine bodyPost_ret (v := .tuple #[.agg #[.int .i64 p, .int .i64 p, .bool (!o)], .bool true]) (by simp [results, Tryd.results31, go_sem]) rfl ⟨rfl, ?_⟩
      repeat (first | exact Below.refl _ _ | refine Below.alloc ?_ (by simp) _ | refine Below.setCell ?_ (by simp) _)

/-- Right: both from nothing to 1023 -/
def rightB (p c : Int) : Bool := decide (0 ≤ p ∧ p ≤ 1023 ∧ 0 ≤ c ∧ c ≤ 1023)
def inR (n : Int) : Bool := decide (0 ≤ n ∧ n ≤ 1023)
theorem rightB_eq (p c : Int) : rightB p c = (inR p && inR c) := by
  unfold rightB inR
  rw [← Bool.decide_and]
  exact decide_eq_decide.2 (by omega)
theorem rightB_iff (p c : Int) : rightB p c = true ↔ 0 ≤ p ∧ p ≤ 1023 ∧ 0 ≤ c ∧ c ≤ 1023 := by unfold rightB; simp

theorem inRange_any (n : Int) (w : World) : Calls Tryd.prog 35 #[.int .i64 n] w fun e w' => e = .returned (.bool (inR n)) ∧ w = w' := by
  by_cases h0 : 0 ≤ n
  · by_cases h1 : n ≤ 1023
    · have e1 : Hid (inR n = true) := by show _ = _; unfold inR; simp; omega
      go_enter Tryd.func35, Tryd.ntmps35
      go_wp2
      go_ret
      exact ⟨by rw [e1.out]; rfl, rfl⟩
    · have e1 : Hid (inR n = false) := by show _ = _; unfold inR; simp; omega
      go_enter Tryd.func35, Tryd.ntmps35
      go_wp2
      go_ret
      exact ⟨by rw [e1.out]; rfl, rfl⟩
  · have e1 : Hid (inR n = false) := by show _ = _; unfold inR; simp; omega
    go_enter Tryd.func35, Tryd.ntmps35
    go_wp2
    go_ret
    exact ⟨by rw [e1.out]; rfl, rfl⟩

theorem right_any (p c : Int) (o : Bool) (w : World) :
    Calls Tryd.prog 23 #[.agg #[.int .i64 p, .int .i64 c, .bool o]] w fun e w' => e = .returned (.bool (rightB p c)) ∧ Below w.heap.size w w' := by
  rw [rightB_eq]
  obtain ⟨x, hx⟩ : ∃ x, x = inR p := ⟨_, rfl⟩
  obtain ⟨y, hy⟩ : ∃ y, y = inR c := ⟨_, rfl⟩
  have HX := Lib.hid hx
  have HY := Lib.hid hy
  rw [← hx, ← hy]
  clear hx hy
  cases x
  all_goals
    go_enter Tryd.func23, Tryd.ntmps23
    go_wp2_with (go_at_call 35; refine (inRange_any _ _).mono ?_; (first | rw [← HX.out] | rw [← HY.out]); rintro e w' ⟨rfl, rfl⟩)
    go_ret
    exact ⟨by simp, (Below.refl _ _).alloc (Nat.le_refl _) _⟩

theorem rright_any (p c : Int) (o : Bool) (w : World) :
    Calls Tryd.prog 27 #[.agg #[.int .i64 p, .int .i64 c, .bool o]] w fun e w' => e = .returned (.bool (rightB p c)) ∧ Below w.heap.size w w' := by
  by_cases h0 : 0 ≤ p
  · by_cases h1 : p < 1024
    · by_cases h2 : 0 ≤ c
      · by_cases h3 : c < 1024
        · have e1 : Hid (rightB p c = true) := by show _ = _; unfold rightB; simp; omega
          go_enter Tryd.func27, Tryd.ntmps27
          go_wp2
          go_ret
          exact ⟨by rw [e1.out]; rfl, (Below.refl _ _).alloc (Nat.le_refl _) _⟩
        · have e1 : Hid (rightB p c = false) := by show _ = _; unfold rightB; simp; omega
          go_enter Tryd.func27, Tryd.ntmps27
          go_wp2
          go_ret
          exact ⟨by rw [e1.out]; rfl, (Below.refl _ _).alloc (Nat.le_refl _) _⟩
      · have e1 : Hid (rightB p c = false) := by show _ = _; unfold rightB; simp; omega
        go_enter Tryd.func27, Tryd.ntmps27
        go_wp2
        go_ret
        exact ⟨by rw [e1.out]; rfl, (Below.refl _ _).alloc (Nat.le_refl _) _⟩
    · have e1 : Hid (rightB p c = false) := by show _ = _; unfold rightB; simp; omega
      go_enter Tryd.func27, Tryd.ntmps27
      go_wp2
      go_ret
      exact ⟨by rw [e1.out]; rfl, (Below.refl _ _).alloc (Nat.le_refl _) _⟩
  · have e1 : Hid (rightB p c = false) := by show _ = _; unfold rightB; simp; omega
    go_enter Tryd.func27, Tryd.ntmps27
    go_wp2
    go_ret
    exact ⟨by rw [e1.out]; rfl, (Below.refl _ _).alloc (Nat.le_refl _) _⟩

theorem untilAnew_any (p c : Int) (o : Bool) (m : Int) (hm : Hid (m = max c 1)) (w : World) :
    Calls Tryd.prog 43 #[.agg #[.int .i64 p, .int .i64 c, .bool o]] w fun e w' => e = .returned (.int .i64 m) ∧ Below w.heap.size w w' := by
  go_enter Tryd.func43, Tryd.ntmps43
  go_wp2_with (with_reducible refine max_at rfl (.tmp 4) (.const (.int .i64 1)) _ rfl .i64 .i64 c 1 rfl rfl m hm.out ?_)
  go_ret
  exact ⟨rfl, (Below.refl _ _).alloc (Nat.le_refl _) _⟩

end Go.Proofs.YtnkfelflpkbobaaDoor.tone
