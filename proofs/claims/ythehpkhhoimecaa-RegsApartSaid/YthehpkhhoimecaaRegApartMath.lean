/-
  What is set in one register is there, and changes no other one. Nothing here speaks of the program.
-/
import Derived.Test.YthehpkhhoimecaaRegSpec
namespace Go.Proofs.Ythehpkhhoimecaa
open Go.RowKit

theorem Rg.pair_set (r : Rg) (hr : r.Fits) (i j : Int) (hi : i = 5 ∨ i = 6 ∨ i = 2) (hj : j = 5 ∨ j = 6 ∨ j = 2) (v : Nat) (_hv : v < 65536) : (r.setPair i v).pair j = if i = j then v else r.pair j := by
  have := hr.h; have := hr.l
  rcases hi with rfl | rfl | rfl <;> rcases hj with rfl | rfl | rfl <;> simp [Rg.setPair, Rg.pair] <;> omega
theorem Rg.one_of_pair (r : Rg) (i : Int) (hi : i = 5 ∨ i = 6 ∨ i = 2) (v : Nat) : (r.setPair i v).a = r.a ∧ (r.setPair i v).b = r.b ∧ (r.setPair i v).c = r.c ∧ (r.setPair i v).d = r.d ∧ (r.setPair i v).e = r.e := by
  rcases hi with rfl | rfl | rfl <;> simp [Rg.setPair]
/-- registers that differ in one of B, C, D, E, A alone point at the same pairs -/
theorem Rg.pair_other (r s : Rg) (j : Int) (hj : j = 5 ∨ j = 6 ∨ j = 2) (h : s.ix = r.ix ∧ s.iy = r.iy ∧ s.h = r.h ∧ s.l = r.l) : s.pair j = r.pair j := by
  obtain ⟨h1, h2, h3, h4⟩ := h
  rcases hj with rfl | rfl | rfl <;> simp [Rg.pair, h1, h2, h3, h4]
theorem rgIdx_inj (p q : Nat) (hp : p = 0 ∨ p = 221 ∨ p = 253) (hq : q = 0 ∨ q = 221 ∨ q = 253) : rgIdx p = rgIdx q ↔ p = q := by
  rcases hp with rfl | rfl | rfl <;> rcases hq with rfl | rfl | rfl <;> simp [rgIdx]

def rgSame (k n p px : Nat) : Prop := k = n ∧ (p = px ∨ (¬ n = 4 ∧ ¬ n = 5)) ∧ ¬ k = 6
instance (k n p px : Nat) : Decidable (rgSame k n p px) := by unfold rgSame; infer_instance
set_option maxHeartbeats 1600000 in
theorem Rg.apart (r : Rg) (hr : r.Fits) (n k p px v : Nat) (hn : n < 8) (hk : k < 8) (hp : p = 0 ∨ p = 221 ∨ p = 253) (hpx : px = 0 ∨ px = 221 ∨ px = 253) (hv : v < 256) :
    (r.setOne (n : Int) px v).one (k : Int) p = if rgSame k n p px then v else r.one (k : Int) p := by
  have hP := r.pair_lt hr (rgIdx px)
  have hi := rgIdx_cases px
  have hj := rgIdx_cases p
  have hinj := rgIdx_inj px p hpx hp
  have hs4 := r.pair_set hr (rgIdx px) (rgIdx p) hi hj (v * 256 + r.pair (rgIdx px) % 256) (by omega)
  have hs5 := r.pair_set hr (rgIdx px) (rgIdx p) hi hj (r.pair (rgIdx px) / 256 * 256 + v) (by omega)
  have ho4 := r.one_of_pair (rgIdx px) hi (v * 256 + r.pair (rgIdx px) % 256)
  have ho5 := r.one_of_pair (rgIdx px) hi (r.pair (rgIdx px) / 256 * 256 + v)
  match n, hn with
  | 0, _ =>
    have e : r.setOne ((0 : Nat) : Int) px v = { r with b := v } := by simp [Rg.setOne]
    have ep := r.pair_other { r with b := v } (rgIdx p) hj ⟨rfl, rfl, rfl, rfl⟩
    rw [e]
    match k, hk with
    | 0, _ | 1, _ | 2, _ | 3, _ | 4, _ | 5, _ | 6, _ | 7, _ => simp [Rg.one, rgSame, ep]
  | 1, _ =>
    have e : r.setOne ((1 : Nat) : Int) px v = { r with c := v } := by simp [Rg.setOne]
    have ep := r.pair_other { r with c := v } (rgIdx p) hj ⟨rfl, rfl, rfl, rfl⟩
    rw [e]
    match k, hk with
    | 0, _ | 1, _ | 2, _ | 3, _ | 4, _ | 5, _ | 6, _ | 7, _ => simp [Rg.one, rgSame, ep]
  | 2, _ =>
    have e : r.setOne ((2 : Nat) : Int) px v = { r with d := v } := by simp [Rg.setOne]
    have ep := r.pair_other { r with d := v } (rgIdx p) hj ⟨rfl, rfl, rfl, rfl⟩
    rw [e]
    match k, hk with
    | 0, _ | 1, _ | 2, _ | 3, _ | 4, _ | 5, _ | 6, _ | 7, _ => simp [Rg.one, rgSame, ep]
  | 3, _ =>
    have e : r.setOne ((3 : Nat) : Int) px v = { r with e := v } := by simp [Rg.setOne]
    have ep := r.pair_other { r with e := v } (rgIdx p) hj ⟨rfl, rfl, rfl, rfl⟩
    rw [e]
    match k, hk with
    | 0, _ | 1, _ | 2, _ | 3, _ | 4, _ | 5, _ | 6, _ | 7, _ => simp [Rg.one, rgSame, ep]
  | 4, _ =>
    have e : r.setOne ((4 : Nat) : Int) px v = r.setPair (rgIdx px) (v * 256 + r.pair (rgIdx px) % 256) := by simp [Rg.setOne]
    rw [e]
    generalize hs : r.setPair (rgIdx px) (v * 256 + r.pair (rgIdx px) % 256) = s at hs4 ho4
    obtain ⟨ea, eb, ec, ed, ee⟩ := ho4
    match k, hk with
    | 0, _ | 1, _ | 2, _ | 3, _ | 6, _ | 7, _ => simp [Rg.one, rgSame, ea, eb, ec, ed, ee]
    | 4, _ =>
      simp only [Rg.one, rgSame, hs4]
      by_cases h : p = px
      · have : rgIdx px = rgIdx p := hinj.2 h.symm
        simp [h, this]; omega
      · have : ¬ rgIdx px = rgIdx p := fun x => h (hinj.1 x).symm
        simp [h, this]
    | 5, _ =>
      simp only [Rg.one, rgSame, hs4]
      by_cases h : p = px
      · have : rgIdx px = rgIdx p := hinj.2 h.symm
        simp [this]
      · have : ¬ rgIdx px = rgIdx p := fun x => h (hinj.1 x).symm
        simp [this]
  | 5, _ =>
    have e : r.setOne ((5 : Nat) : Int) px v = r.setPair (rgIdx px) (r.pair (rgIdx px) / 256 * 256 + v) := by simp [Rg.setOne]
    rw [e]
    generalize hs : r.setPair (rgIdx px) (r.pair (rgIdx px) / 256 * 256 + v) = s at hs5 ho5
    obtain ⟨ea, eb, ec, ed, ee⟩ := ho5
    match k, hk with
    | 0, _ | 1, _ | 2, _ | 3, _ | 6, _ | 7, _ => simp [Rg.one, rgSame, ea, eb, ec, ed, ee]
    | 4, _ =>
      simp only [Rg.one, rgSame, hs5]
      by_cases h : p = px
      · have : rgIdx px = rgIdx p := hinj.2 h.symm
        simp [this]; omega
      · have : ¬ rgIdx px = rgIdx p := fun x => h (hinj.1 x).symm
        simp [this]
    | 5, _ =>
      simp only [Rg.one, rgSame, hs5]
      by_cases h : p = px
      · have : rgIdx px = rgIdx p := hinj.2 h.symm
        simp [h, this]; omega
      · have : ¬ rgIdx px = rgIdx p := fun x => h (hinj.1 x).symm
        simp [h, this]
  | 6, _ =>
    have e : r.setOne ((6 : Nat) : Int) px v = r := by simp [Rg.setOne]
    rw [e]
    by_cases h6 : k = 6
    · simp [rgSame, h6]
    · rw [if_neg (fun h => h6 h.1)]
  | 7, _ =>
    have e : r.setOne ((7 : Nat) : Int) px v = { r with a := v } := by simp [Rg.setOne]
    have ep := r.pair_other { r with a := v } (rgIdx p) hj ⟨rfl, rfl, rfl, rfl⟩
    rw [e]
    match k, hk with
    | 0, _ | 1, _ | 2, _ | 3, _ | 4, _ | 5, _ | 6, _ | 7, _ => simp [Rg.one, rgSame, ep]

/-- the ways that the law's question takes -/
theorem apart_ways (r : Rg) (hr : r.Fits) (n k p px v O1 O2 : Nat) (hn : n < 8) (hk : k < 8) (hp : p = 0 ∨ p = 221 ∨ p = 253) (hpx : px = 0 ∨ px = 221 ∨ px = 253) (hv : v < 256)
    (h1 : r.one (k : Int) p = O1) (h2 : (r.setOne (n : Int) px v).one (k : Int) p = O2) :
    (((k : Int) == (n : Int)) = false ∧ O2 = O1) ∨
    (((k : Int) == (n : Int)) = true ∧ ((p : Int) == (px : Int)) = true ∧ ((k : Int) != 6) = true ∧ O2 = v) ∨
    (((k : Int) == (n : Int)) = true ∧ ((p : Int) == (px : Int)) = true ∧ ((k : Int) != 6) = false ∧ O2 = O1) ∨
    (((k : Int) == (n : Int)) = true ∧ ((p : Int) == (px : Int)) = false ∧ ((n : Int) != 4) = false ∧ O2 = O1) ∨
    (((k : Int) == (n : Int)) = true ∧ ((p : Int) == (px : Int)) = false ∧ ((n : Int) != 4) = true ∧ ((n : Int) != 5) = false ∧ O2 = O1) ∨
    (((k : Int) == (n : Int)) = true ∧ ((p : Int) == (px : Int)) = false ∧ ((n : Int) != 4) = true ∧ ((n : Int) != 5) = true ∧ ((k : Int) != 6) = true ∧ O2 = v) ∨
    (((k : Int) == (n : Int)) = true ∧ ((p : Int) == (px : Int)) = false ∧ ((n : Int) != 4) = true ∧ ((n : Int) != 5) = true ∧ ((k : Int) != 6) = false ∧ O2 = O1) := by
  have h := r.apart hr n k p px v hn hk hp hpx hv
  rw [h1, h2] at h
  have q1 : ((k : Int) == (n : Int)) = decide (k = n) := by rw [Bool.eq_iff_iff]; simp; omega
  have q2 : ((p : Int) == (px : Int)) = decide (p = px) := by rw [Bool.eq_iff_iff]; simp; omega
  have q3 : ((n : Int) != 4) = decide (¬ n = 4) := by rw [Bool.eq_iff_iff]; simp; omega
  have q4 : ((n : Int) != 5) = decide (¬ n = 5) := by rw [Bool.eq_iff_iff]; simp; omega
  have q5 : ((k : Int) != 6) = decide (¬ k = 6) := by rw [Bool.eq_iff_iff]; simp; omega
  rw [q1, q2, q3, q4, q5]
  unfold rgSame at h
  by_cases a : k = n
  · by_cases b : p = px
    · by_cases c : k = 6
      · right; right; left; simp [a, b] at h ⊢; simp [← a, c] at h ⊢; exact h
      · right; left; simp [a, b] at h ⊢; simp [← a, c] at h ⊢; exact h
    · by_cases d : n = 4
      · right; right; right; left; simp [a, b, d] at h ⊢; exact h
      · by_cases e : n = 5
        · right; right; right; right; left; simp [a, b, e] at h ⊢; exact h
        · by_cases c : k = 6
          · right; right; right; right; right; right; simp [a, b, d, e] at h ⊢; simp [← a, c] at h ⊢; exact h
          · right; right; right; right; right; left; simp [a, b, d, e] at h ⊢; simp [← a, c] at h ⊢; exact h
  · left; simp [a] at h ⊢; exact h

end Go.Proofs.Ythehpkhhoimecaa
