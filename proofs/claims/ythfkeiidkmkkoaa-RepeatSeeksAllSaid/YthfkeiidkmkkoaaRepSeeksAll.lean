/-
  The law RepeatSeeksAll returns true for any bytes and any byte, and writes nothing.
-/
import Derived.Test.YthfkeiidkmkkoaaRepKeeps
import Derived.Test.YthfkeiidkmkkoaaByteRow
namespace Go.Proofs.Ythfkeiidkmkkoaa
open Go.RowKit

/-- how the search stands behind k bytes of n -/
def SeekAt (q : Nat) (xs : Nat → Nat) (n k F : Nat) (o : Bool) : Prop :=
  F < 256 ∧ (k = 0 ∧ o = true ∨ ∃ j, k = j + 1 ∧ (∀ i, i < j → xs i ≠ q) ∧ nBit 64 F = Nat.beq q (xs j) ∧ (nBit 4 F = true ↔ k < n) ∧ (o = true ↔ (k < n ∧ xs j ≠ q)))
/-- the first place from m on -/
def FirstAt (q : Nat) (xs : Nat → Nat) (n m : Nat) (t : Int) : Prop :=
  (t = -1 ∧ ∀ i, m ≤ i → i < n → xs i ≠ q) ∨ ∃ j : Nat, t = (j : Int) ∧ m ≤ j ∧ j < n ∧ xs j = q ∧ ∀ i, m ≤ i → i < j → xs i ≠ q

theorem seekAt_next (q : Nat) (xs : Nat → Nat) (n k F F' : Nat) (p o : Bool) (hq : q < 256) (hx : xs k < 256) (hk : k < n) (h : SeekAt q xs n k F true) (hp : p = true ↔ n - k - 1 ≠ 0) (hF : rSeekF q (xs k) F p = F') (ho : rSeekOn q (xs k) p = o) : SeekAt q xs n (k + 1) F' o := by
  refine ⟨by rw [← hF]; exact rSeekF_lt _ _ _ _, .inr ⟨k, rfl, ?_, ?_, ?_, ?_⟩⟩
  · rcases h.2 with ⟨rfl, _⟩ | ⟨j, rfl, hj, _, _, ho'⟩
    · intro i hi; omega
    · have h2 := (ho'.1 rfl).2
      intro i hi
      by_cases e : i = j
      · rw [e]; exact h2
      · exact hj i (by omega)
  · rw [← hF, ← sub_z q (xs k) hq hx]; exact (nBit_byte _ _ _ _ _ _ _ _).2.1
  · rw [← hF, show nBit 4 (rSeekF q (xs k) F p) = p from (nBit_byte _ _ _ _ _ _ _ _).2.2.2.1, hp]; omega
  · rw [← ho]; unfold rSeekOn
    rw [Bool.and_eq_true, Bool.not_eq_true', hp, ← Bool.not_eq_true, Nat.beq_eq]
    constructor
    · rintro ⟨h1, h2⟩; exact ⟨by omega, fun e => h2 e.symm⟩
    · rintro ⟨h1, h2⟩; exact ⟨by omega, fun e => h2 e.symm⟩
theorem firstAt_next (q : Nat) (xs : Nat → Nat) (n m : Nat) (t : Int) (h : FirstAt q xs n (m + 1) t) (hm : m < n) : (xs m = q → FirstAt q xs n m m) ∧ (xs m ≠ q → FirstAt q xs n m t) := by
  refine ⟨fun e => .inr ⟨m, rfl, Nat.le_refl _, hm, e, fun i h1 h2 => by omega⟩, fun e => ?_⟩
  rcases h with ⟨rfl, h⟩ | ⟨j, rfl, h1, h2, h3, h4⟩
  · refine .inl ⟨rfl, fun i hi hn => ?_⟩
    by_cases e' : i = m
    · rw [e']; exact e
    · exact h i (by omega) hn
  · refine .inr ⟨j, rfl, by omega, h2, h3, fun i hi hj => ?_⟩
    by_cases e' : i = m
    · rw [e']; exact e
    · exact h4 i (by omega) hj
/-- at the end: what was found, and where -/
theorem seek_end (q : Nat) (xs : Nat → Nat) (n k F : Nat) (t : Int) (hk : k ≤ n) (h : SeekAt q xs n k F false) (ht : FirstAt q xs n 0 t) :
    (nBit 64 F = true ∧ ∃ j : Nat, t = (j : Int) ∧ k = j + 1) ∨ (nBit 64 F = false ∧ t = -1 ∧ k = n) := by
  rcases h.2 with ⟨_, h⟩ | ⟨j, rfl, hj, hz, _, ho⟩
  · cases h
  · by_cases e : xs j = q
    · refine .inl ⟨by rw [hz, Nat.beq_eq]; exact e.symm, j, ?_, rfl⟩
      rcases ht with ⟨_, ht⟩ | ⟨i, rfl, _, h2, h3, h4⟩
      · exact absurd e (ht j (by omega) (by omega))
      · have : ¬ i < j := fun hlt => hj i hlt h3
        have : ¬ j < i := fun hlt => h4 j (by omega) hlt e
        have : i = j := by omega
        rw [this]
    · have hn : j + 1 = n := by
        have : ¬ (j + 1 < n ∧ xs j ≠ q) := fun h' => by have := ho.2 h'; cases this
        rcases Nat.lt_or_ge (j + 1) n with hlt | hge
        · exact absurd ⟨hlt, e⟩ this
        · omega
      refine .inr ⟨by rw [hz, ← Bool.not_eq_true, Nat.beq_eq]; exact fun h' => e h'.symm, ?_, hn⟩
      rcases ht with ⟨ht, _⟩ | ⟨i, rfl, _, h2, h3, _⟩
      · exact ht
      · exfalso
        by_cases e' : i = j
        · exact e (e' ▸ h3)
        · exact hj i (by omega) h3
theorem and_4 (f : Nat) (h : f < 256) : f &&& 4 = cond (nBit 4 f) 4 0 := Nat.eq_of_beq_eq_true (allB_at (show allB 256 (fun f => Nat.beq (Nat.land f 4) (cond (nBit 4 f) 4 0)) = true by decide +kernel) f h)
theorem and_64 (f : Nat) (h : f < 256) : f &&& 64 = cond (nBit 64 f) 64 0 := Nat.eq_of_beq_eq_true (allB_at (show allB 256 (fun f => Nat.beq (Nat.land f 64) (cond (nBit 64 f) 64 0)) = true by decide +kernel) f h)

set_option maxRecDepth 100000 in
set_option maxHeartbeats 1600000 in
theorem seeksAll_any (a : Option Addr) (n cap : Nat) (xs : Nat → Nat) (q : Nat) (hq : q < 256) (w : World) (hb : ByteRow w a n xs) :
    Calls Try.prog 8 #[.slice a n cap, .int .u8 (q : Int)] w fun e w' => e = .returned (.bool true) ∧ Below w.heap.size w w' := by
  by_cases h0 : (n : Int) < 1
  · go_enter Try.func8, Try.ntmps8
    go_wp2_with (go_at_call 10; refine (repeatAlive_any _).mono ?_; rintro e w' ⟨rfl, rfl⟩)
    go_ret
    exact ⟨rfl, Below.refl _ _⟩
  by_cases h3 : (300 : Int) < (n : Int)
  · go_enter Try.func8, Try.ntmps8
    go_wp2_with (go_at_call 10; refine (repeatAlive_any _).mono ?_; rintro e w' ⟨rfl, rfl⟩)
    go_ret
    exact ⟨rfl, Below.refl _ _⟩
  obtain ⟨g, o, rfl, hg, hc⟩ := hb (by omega)
  have HC := Lib.hid hc
  clear hc hb hg
  go_enter Try.func8, Try.ntmps8
  go_wp2_with (go_at_call 10; refine (repeatAlive_any _).mono ?_; rintro e w' ⟨rfl, rfl⟩)
  go_loopw [5, 6, 7] (fun at_ f on wr => ∃ (k F : Nat) (b : Bool), k ≤ n ∧ at_ = .int .i64 (k : Int) ∧ f = .int .u8 (F : Int) ∧ on = .bool b ∧ Hid (SeekAt q xs n k F b) ∧ w = wr) (fun at_ _ _ _ => n - (intOf at_).toNat)
  case atStart => exact ⟨0, 0, true, by omega, rfl, rfl, rfl, ⟨by omega, .inl ⟨rfl, rfl⟩⟩, rfl⟩
  case round =>
    obtain ⟨k, F, b, hk, rfl, rfl, rfl, HS, rfl⟩ := hrel
    have F1 : F < 256 := HS.out.1
    cases b
    · go_wp2
      go_loopw [8, 9] (fun ft i wr => ∃ (m : Nat) (t : Int), m ≤ n ∧ i = .int .i64 ((m : Int) - 1) ∧ ft = .int .i64 t ∧ Hid (FirstAt q xs n m t) ∧ w = wr) (fun _ i _ => (intOf i + 1).toNat)
      case atStart => exact ⟨n, -1, Nat.le_refl _, rfl, rfl, .inl ⟨rfl, fun i h1 h2 => by omega⟩, rfl⟩
      case round =>
        obtain ⟨m, t, hm, rfl, rfl, HT, rfl⟩ := hrel
        by_cases hm0 : m = 0
        · subst hm0
          have hend := seek_end q xs n k F t hk HS.out HT.out
          have hp : nBit 4 F = true ↔ k < n := by
            rcases HS.out.2 with ⟨_, h⟩ | ⟨j, rfl, _, _, hp, _⟩
            · cases h
            · exact hp
          have e1 := and8n F 64 _ F1 (by decide) (and_64 F F1)
          have e2 := and8n F 4 _ F1 (by decide) (and_4 F F1)
          clear HS HT hm
          rcases hend with ⟨hz, j, rfl, rfl⟩ | ⟨hz, rfl, rfl⟩
          · rw [hz] at e1
            have e1 : bits .and .u8 (F : Int) 64 = 64 := e1
            by_cases hlt : j + 1 < n
            · rw [hp.2 hlt] at e2
              have e2 : bits .and .u8 (F : Int) 4 = 4 := e2
              have hlt2 : decide ((j : Int) + 1 < (n : Int)) = true := by simp; omega
              clear hp hz
              go_wp2
              go_ret
              exact ⟨rfl, Below.refl _ _⟩
            · rw [show nBit 4 F = false from by rw [← Bool.not_eq_true, hp]; exact hlt] at e2
              have e2 : bits .and .u8 (F : Int) 4 = 0 := e2
              have hlt2 : decide ((j : Int) + 1 < (n : Int)) = false := by simp; omega
              clear hp hz
              go_wp2
              go_ret
              exact ⟨rfl, Below.refl _ _⟩
          · rw [hz] at e1
            have e1 : bits .and .u8 (F : Int) 64 = 0 := e1
            rw [show nBit 4 F = false from by rw [← Bool.not_eq_true, hp]; omega] at e2
            have e2 : bits .and .u8 (F : Int) 4 = 0 := e2
            clear hp hz
            go_wp2
            go_ret
            exact ⟨rfl, Below.refl _ _⟩
        · obtain ⟨m, rfl⟩ : ∃ m', m = m' + 1 := ⟨m - 1, by omega⟩
          have em : ((m + 1 : Nat) : Int) - 1 = (m : Int) := by omega
          rw [em]
          obtain ⟨hcm, hxm⟩ := HC.out m (by omega)
          obtain ⟨hy, hn⟩ := firstAt_next q xs n m t HT.out (by omega)
          have hlt2 : (m : Int) < (n : Int) := by omega
          by_cases hxq : xs m = q
          · have HT2 := Lib.hid (hy hxq)
            rw [hxq] at hcm
            clear hy hn HT HS hxm hxq hm hk
            go_wp2
            go_roundw
            case rel => exact ⟨m, _, by omega, rfl, rfl, HT2, trivial⟩
            case measure => simp [intOf]
          · have HT2 := Lib.hid (hn hxq)
            have hxq2 : ¬ ((xs m : Int) = (q : Int)) := by omega
            clear hy hn HT HS hxq hm hk
            go_wp2
            go_roundw
            case rel => exact ⟨m, _, by omega, rfl, rfl, HT2, trivial⟩
            case measure => simp [intOf]
    · have hlt : k < n := by
        rcases HS.out.2 with ⟨rfl, _⟩ | ⟨j, rfl, _, _, _, ho⟩
        · omega
        · exact (ho.1 rfl).1
      obtain ⟨hck, hx⟩ := HC.out k hlt
      obtain ⟨x, hxx⟩ : ∃ x, xs k = x := ⟨_, rfl⟩
      rw [hxx] at hck hx
      obtain ⟨L, hL⟩ : ∃ L, n - k - 1 = L := ⟨_, rfl⟩
      have eL : (n : Int) - (k : Int) - 1 = (L : Int) := by omega
      have L1 : (L : Int) < 300 := by omega
      obtain ⟨p, hp⟩ : ∃ p : Bool, Hid ((p = true) ↔ L ≠ 0) := ⟨decide (L ≠ 0), Lib.hid (by simp)⟩
      obtain ⟨r, hr⟩ : ∃ r, Hid (rSeekF q x F p = r) := ⟨_, rfl⟩
      obtain ⟨c, hc⟩ : ∃ c, Hid (rSeekOn q x p = c) := ⟨_, rfl⟩
      have HN : Hid (SeekAt q xs n (k + 1) r c) := by
        have h1 := hp.out
        rw [← hL] at h1
        have h2 := hr.out
        have h4 := hc.out
        rw [← hxx] at h2 h4
        exact seekAt_next q xs n k F r p c hq (by rw [hxx]; exact hx) hlt HS.out h1 h2 h4
      have hlt2 : (k : Int) < (n : Int) := by omega
      clear hL hxx hk
      go_wp2_with (go_at_call 9; (with_reducible refine (seek_at q x F L r p c hq hx F1 hp hr hc _).mono ?_); rintro e w' ⟨rfl, rfl⟩)
      go_roundw
      case rel => exact ⟨k + 1, r, c, by omega, by go_num, rfl, rfl, HN, trivial⟩
      case measure => simp [intOf]; omega

end Go.Proofs.Ythfkeiidkmkkoaa
