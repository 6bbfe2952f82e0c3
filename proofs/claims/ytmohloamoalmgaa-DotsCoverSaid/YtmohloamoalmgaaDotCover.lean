/-
  The law DotsCover returns true for every line, and writes nothing.
-/
import Derived.Test.YtmohloamoalmgaaDotLaws
namespace Go.Proofs.Ytmohloamoalmgaa
open Go.RowKit

/-- what counts lines, over natural numbers; how many of the first k lines it tells the same -/
def cV (l : Nat) : Nat := cond (Nat.ble l 218) l (l - 6)
def cnt (l : Nat) : Nat → Nat
  | 0 => 0
  | k + 1 => cond (Nat.beq (cV k) (cV l)) (cnt l k + 1) (cnt l k)
theorem dV_nat (l : Nat) (h : l < 262) : dV (l : Int) = (cV l : Int) := by
  unfold dV cV
  by_cases k : l < 219
  · rw [if_pos ⟨by omega, by omega⟩, show Nat.ble l 218 = true from Nat.ble_eq.mpr (by omega)]; rfl
  · rw [if_neg (by omega), if_pos ⟨by omega, by omega⟩, show Nat.ble l 218 = false by rw [← Bool.not_eq_true, Nat.ble_eq]; omega]
    show (l : Int) - 6 = ((l - 6 : Nat) : Int)
    omega
theorem cnt_all : ∀ l, l < 262 → (and (Nat.ble 1 (cnt l 262)) (and (Nat.ble (cnt l 262) 2) (Nat.beq (cnt l 262) 1 == or (Nat.ble l 212) (Nat.ble 225 l)))) = true := by decide +kernel
theorem cnt_one (l : Nat) (h : l < 262) (h' : l < 213 ∨ 224 < l) : cnt l 262 = 1 := by
  have e := cnt_all l h
  rw [Bool.and_eq_true, Bool.and_eq_true, beq_iff_eq, Nat.ble_eq, Nat.ble_eq] at e
  obtain ⟨e1, e2, e3⟩ := e
  have : (or (Nat.ble l 212) (Nat.ble 225 l)) = true := by rw [Bool.or_eq_true, Nat.ble_eq, Nat.ble_eq]; omega
  rw [this] at e3
  exact Nat.eq_of_beq_eq_true e3
theorem cnt_two (l : Nat) (h : l < 262) (h' : ¬(l < 213 ∨ 224 < l)) : cnt l 262 = 2 := by
  have e := cnt_all l h
  rw [Bool.and_eq_true, Bool.and_eq_true, beq_iff_eq, Nat.ble_eq, Nat.ble_eq] at e
  obtain ⟨e1, e2, e3⟩ := e
  have : (or (Nat.ble l 212) (Nat.ble 225 l)) = false := by rw [← Bool.not_eq_true, Bool.or_eq_true, Nat.ble_eq, Nat.ble_eq]; omega
  rw [this] at e3
  have : ¬ cnt l 262 = 1 := fun h => by rw [h] at e3; cases e3
  omega
theorem cnt_le (l k : Nat) : cnt l k ≤ k := by
  induction k with
  | zero => exact Nat.le_refl _
  | succ k ih => show cond _ _ _ ≤ _; cases Nat.beq (cV k) (cV l) <;> simp only [cond] <;> omega

theorem cover_out (l : Int) (h : l < 0 ∨ 261 < l) (w : World) : Calls Try.prog 7 #[.int .i64 l] w fun e w' => e = .returned (.bool true) ∧ Below w.heap.size w w' := by
  have hs : Hid (dS l = -1) := by show dS l = _; unfold dS; rw [if_neg (by omega)]
  rcases h with h | h
  · go_enter Try.func7, Try.ntmps7
    go_wp2_with (first | (go_at_call 8; (with_reducible refine (alive_any _).mono ?_); rintro e w' ⟨rfl, rfl⟩) | (go_at_call 11; first | ((with_reducible refine (start_at l (-1) hs _).mono ?_); rintro e w' ⟨rfl, rfl⟩)))
    go_ret
    exact ⟨rfl, Below.refl _ _⟩
  · go_enter Try.func7, Try.ntmps7
    go_wp2_with (first | (go_at_call 8; (with_reducible refine (alive_any _).mono ?_); rintro e w' ⟨rfl, rfl⟩) | (go_at_call 11; first | ((with_reducible refine (start_at l (-1) hs _).mono ?_); rintro e w' ⟨rfl, rfl⟩)))
    go_ret
    exact ⟨rfl, Below.refl _ _⟩

set_option maxRecDepth 100000 in
set_option maxHeartbeats 1600000 in
theorem cover_last (w : World) : Calls Try.prog 7 #[.int .i64 261] w fun e w' => e = .returned (.bool true) ∧ Below w.heap.size w w' := by
  have hs : Hid (dS 261 = 59508) := by show _ = _; decide +kernel
  have hS : Hid (dS 262 = -1) := by show _ = _; decide +kernel
  have hn : Hid (228 - (59508 : Int) % 59736 % 228 = 228) := by show _ = _; decide +kernel
  have hl : Hid ((59508 : Int) % 59736 / 228 = 261) := by show _ = _; decide +kernel
  have he : Hid ((59735 : Int) % 59736 / 228 = 261) := by show _ = _; decide +kernel
  have hV : Hid (dV 261 = ((255 : Nat) : Int)) := by show _ = _; decide +kernel
  have hv : cV 261 = 255 := rfl
  go_enter Try.func7, Try.ntmps7
  go_wp2_with (first | (go_at_call 8; (with_reducible refine (alive_any _).mono ?_); rintro e w' ⟨rfl, rfl⟩) | (go_at_call 11; first | ((with_reducible refine (start_at 261 59508 hs _).mono ?_); rintro e w' ⟨rfl, rfl⟩) | ((with_reducible refine (start_at 262 (-1) hS _).mono ?_); rintro e w' ⟨rfl, rfl⟩)) | (go_at_call 16; first | ((with_reducible refine (next_n 59508 228 hn _).mono ?_); rintro e w' ⟨rfl, rfl⟩)))
  go_loopw [6, 7] (fun tw i wr => ∃ k : Nat, k ≤ 262 ∧ tw = .int .i64 (cnt 261 k : Int) ∧ i = .int .i64 (k : Int) ∧ w = wr) (fun _ i _ => 262 - (intOf i).toNat)
  case atStart => exact ⟨0, by omega, rfl, rfl, rfl⟩
  case round =>
    obtain ⟨k, k2, rfl, rfl, rfl⟩ := hrel
    have n1 := cnt_le 261 k
    by_cases hk : k < 262
    · have hk' : (k : Int) < 262 := by omega
      obtain ⟨u, hu⟩ : ∃ u, cV k = u := ⟨_, rfl⟩
      have hU : Hid (dV (k : Int) = (u : Int)) := by show _ = _; rw [dV_nat k hk, hu]
      have hc : cnt 261 (k + 1) = cond (Nat.beq u 255) (cnt 261 k + 1) (cnt 261 k) := by rw [← hu, ← hv]; rfl
      obtain ⟨c, hc0⟩ : ∃ c, cnt 261 k = c := ⟨_, rfl⟩
      rw [hc0] at hc n1 ⊢
      by_cases e : u = 255
      · subst e
        rw [Nat.beq_refl] at hc
        clear hu
        go_wp2_with (first | (go_at_call 9; first | ((with_reducible refine (v_at (k : Int) _ hU _).mono ?_); rintro e w' ⟨rfl, rfl⟩) | ((with_reducible refine (v_at 261 _ hV _).mono ?_); rintro e w' ⟨rfl, rfl⟩)))
        go_roundw
        case rel => exact ⟨k + 1, by omega, by rw [hc]; rfl, rfl, trivial⟩
        case measure => simp [intOf]; omega
      · have e' : ¬ (u : Int) = 255 := by omega
        rw [show Nat.beq u 255 = false by rw [← Bool.not_eq_true, Nat.beq_eq]; exact e] at hc
        clear hu
        go_wp2_with (first | (go_at_call 9; first | ((with_reducible refine (v_at (k : Int) _ hU _).mono ?_); rintro e w' ⟨rfl, rfl⟩) | ((with_reducible refine (v_at 261 _ hV _).mono ?_); rintro e w' ⟨rfl, rfl⟩)))
        go_roundw
        case rel => exact ⟨k + 1, by omega, by rw [hc]; rfl, rfl, trivial⟩
        case measure => simp [intOf]; omega
    · have e : k = 262 := by omega
      subst e
      clear n1
      rw [cnt_one 261 (by decide) (by decide)]
      go_wp2_with (first | (go_at_call 13; first | ((with_reducible refine (line_n _ 261 hl _).mono ?_); rintro e w' ⟨rfl, rfl⟩) | ((with_reducible refine (line_n _ 261 he _).mono ?_); rintro e w' ⟨rfl, rfl⟩)))
      go_ret
      exact ⟨rfl, Below.refl _ _⟩
set_option maxRecDepth 100000 in
set_option maxHeartbeats 1600000 in
theorem cover_in (l : Nat) (h : l < 262) (w : World) : Calls Try.prog 7 #[.int .i64 (l : Int)] w fun e w' => e = .returned (.bool true) ∧ Below w.heap.size w w' := by
  have l2 : (l : Int) < 262 := by omega
  have hs : Hid (dS (l : Int) = 228 * (l : Int)) := by show dS _ = _; unfold dS; rw [if_pos (by omega)]
  have m0 : 228 * (l : Int) % 59736 = 228 * (l : Int) := by omega
  have hn : Hid (228 - 228 * (l : Int) % 59736 % 228 = 228) := by show _ = _; rw [m0]; omega
  have hl : Hid (228 * (l : Int) % 59736 / 228 = (l : Int)) := by show _ = _; rw [m0]; omega
  have he : Hid ((228 * (l : Int) + 228 - 1) % 59736 / 228 = (l : Int)) := by show _ = _; rw [show (228 * (l : Int) + 228 - 1) % 59736 = 228 * (l : Int) + 227 by omega]; omega
  obtain ⟨v, hv⟩ : ∃ v, cV l = v := ⟨_, rfl⟩
  have hV : Hid (dV (l : Int) = (v : Int)) := by show _ = _; rw [dV_nat l h, hv]
  obtain ⟨s, hS⟩ : ∃ s, Hid (dS ((l : Int) + 1) = s) := ⟨_, rfl⟩
  have cases : (l < 261 ∧ s = 228 * (l : Int) + 228) ∨ (l = 261 ∧ s = -1) := by
    have e := hS.out
    unfold dS at e
    by_cases k : l < 261
    · rw [if_pos (by omega)] at e
      exact .inl ⟨k, by omega⟩
    · rw [if_neg (by omega)] at e
      exact .inr ⟨by omega, by omega⟩
  clear m0
  rcases cases with ⟨c1, rfl⟩ | ⟨c1, rfl⟩
  · have c2 : (l : Int) < 261 := by omega
    go_enter Try.func7, Try.ntmps7
    go_wp2_with (first | (go_at_call 8; (with_reducible refine (alive_any _).mono ?_); rintro e w' ⟨rfl, rfl⟩) | (go_at_call 11; first | ((with_reducible refine (start_at (l : Int) (228 * (l : Int)) hs _).mono ?_); rintro e w' ⟨rfl, rfl⟩) | ((with_reducible refine (start_at ((l : Int) + 1) _ hS _).mono ?_); rintro e w' ⟨rfl, rfl⟩)) | (go_at_call 16; first | ((with_reducible refine (next_n (228 * (l : Int)) 228 hn _).mono ?_); rintro e w' ⟨rfl, rfl⟩)))
    go_loopw [6, 7] (fun tw i wr => ∃ k : Nat, k ≤ 262 ∧ tw = .int .i64 (cnt l k : Int) ∧ i = .int .i64 (k : Int) ∧ w = wr) (fun _ i _ => 262 - (intOf i).toNat)
    case atStart => exact ⟨0, by omega, rfl, rfl, rfl⟩
    case round =>
      obtain ⟨k, k2, rfl, rfl, rfl⟩ := hrel
      have n1 := cnt_le l k
      by_cases hk : k < 262
      · have hk' : (k : Int) < 262 := by omega
        obtain ⟨u, hu⟩ : ∃ u, cV k = u := ⟨_, rfl⟩
        have hU : Hid (dV (k : Int) = (u : Int)) := by show _ = _; rw [dV_nat k hk, hu]
        have hc : cnt l (k + 1) = cond (Nat.beq u v) (cnt l k + 1) (cnt l k) := by rw [← hu, ← hv]; rfl
        obtain ⟨c, hc0⟩ : ∃ c, cnt l k = c := ⟨_, rfl⟩
        rw [hc0] at hc n1 ⊢
        by_cases e : u = v
        · subst e
          rw [Nat.beq_refl] at hc
          clear hu
          go_wp2_with (first | (go_at_call 9; first | ((with_reducible refine (v_at (k : Int) _ hU _).mono ?_); rintro e w' ⟨rfl, rfl⟩) | ((with_reducible refine (v_at (l : Int) _ hV _).mono ?_); rintro e w' ⟨rfl, rfl⟩)))
          go_roundw
          case rel => exact ⟨k + 1, by omega, by rw [hc]; rfl, rfl, trivial⟩
          case measure => simp [intOf]; omega
        · have e' : ¬ (u : Int) = (v : Int) := by omega
          rw [show Nat.beq u v = false by rw [← Bool.not_eq_true, Nat.beq_eq]; exact e] at hc
          clear hu
          go_wp2_with (first | (go_at_call 9; first | ((with_reducible refine (v_at (k : Int) _ hU _).mono ?_); rintro e w' ⟨rfl, rfl⟩) | ((with_reducible refine (v_at (l : Int) _ hV _).mono ?_); rintro e w' ⟨rfl, rfl⟩)))
          go_roundw
          case rel => exact ⟨k + 1, by omega, by rw [hc]; rfl, rfl, trivial⟩
          case measure => simp [intOf]; omega
      · have e : k = 262 := by omega
        subst e
        clear n1
        by_cases h' : l < 213 ∨ 224 < l
        · rw [cnt_one l h h']
          rcases h' with h' | h'
          · have a1 : (l : Int) < 213 := by omega
            go_wp2_with (first | (go_at_call 13; first | ((with_reducible refine (line_n _ (l : Int) hl _).mono ?_); rintro e w' ⟨rfl, rfl⟩) | ((with_reducible refine (line_n _ (l : Int) he _).mono ?_); rintro e w' ⟨rfl, rfl⟩)))
            go_ret
            exact ⟨rfl, Below.refl _ _⟩
          · have a1 : 224 < (l : Int) := by omega
            go_wp2_with (first | (go_at_call 13; first | ((with_reducible refine (line_n _ (l : Int) hl _).mono ?_); rintro e w' ⟨rfl, rfl⟩) | ((with_reducible refine (line_n _ (l : Int) he _).mono ?_); rintro e w' ⟨rfl, rfl⟩)))
            go_ret
            exact ⟨rfl, Below.refl _ _⟩
        · rw [cnt_two l h h']
          have a1 : 213 ≤ (l : Int) := by omega
          have a2 : (l : Int) ≤ 224 := by omega
          go_wp2_with (first | (go_at_call 13; first | ((with_reducible refine (line_n _ (l : Int) hl _).mono ?_); rintro e w' ⟨rfl, rfl⟩) | ((with_reducible refine (line_n _ (l : Int) he _).mono ?_); rintro e w' ⟨rfl, rfl⟩)))
          go_ret
          refine ⟨?_, Below.refl _ _⟩
          show Ending.returned (.bool (!decide ((l : Int) < 213) && !decide (224 < (l : Int)))) = _
          rw [decide_eq_false (by omega), decide_eq_false (by omega)]
          rfl
  · subst c1
    exact cover_last w
theorem cover_any (l : Int) (w : World) : Calls Try.prog 7 #[.int .i64 l] w fun e w' => e = .returned (.bool true) ∧ Below w.heap.size w w' := by
  by_cases h : 0 ≤ l ∧ l < 262
  · obtain ⟨n, rfl⟩ := Int.eq_ofNat_of_zero_le h.1
    exact cover_in n (by omega) w
  · exact cover_out l (by omega) w
end Go.Proofs.Ytmohloamoalmgaa
