/-
  Many steps of a sound at once: the tones by their closed form, the noise by the steps with the third tone's turns and those without; that is so many single steps. Plain data: nothing here speaks of the program's memory.
-/
import Derived.Test.YtnkfelflpkbobaaDoorPsgSound
namespace Go.Proofs.YtnkfelflpkbobaaDoor
open Go.RowKit

def Noi.go (t : Bool) (n : Noi) : Nat → Noi
  | 0 => n
  | k + 1 => (Noi.go t n k).next t
theorem Noi.Good.go {n : Noi} (h : n.Good) (t : Bool) (k : Nat) : (n.go t k).Good := by
  induction k with
  | zero => exact h
  | succ k ih => exact ih.next t
theorem Noi.rest (n : Noi) (h3 : n.m % 4 = 3) : n.next false = n := by
  unfold Noi.next nextCt nextH nextX ticksB
  simp [h3]
theorem Noi.deaf (n : Noi) (h3 : ¬ n.m % 4 = 3) : n.next true = n.next false := by
  unfold Noi.next nextH nextX ticksB
  simp only [if_neg h3]
theorem Noi.comm (n : Noi) : (n.next true).next false = (n.next false).next true := by
  by_cases h3 : n.m % 4 = 3
  · rw [n.rest h3, (n.next true).rest h3]
  · rw [n.deaf h3, (n.next false).deaf h3]
theorem Noi.go_comm (n : Noi) (j : Nat) : (n.next true).go false j = (n.go false j).next true := by
  induction j with
  | zero => rfl
  | succ j ih => show ((n.next true).go false j).next false = ((n.go false j).next false).next true; rw [ih, Noi.comm]

def Ton.run (t : Ton) (s : Int) : Ton := ⟨t.p, tone.runC t.p t.c s, tone.runO t.p t.c t.o s⟩
def Ton.runs (t : Ton) (s : Int) : Int := tone.runN t.p t.c s
theorem Ton.run_zero (t : Ton) : t.run 0 = t ∧ t.runs 0 = 0 := by
  obtain ⟨a, b, c⟩ := tone.run_zero t.p t.c t.o 0 (by omega)
  unfold Ton.run Ton.runs
  rw [a, b, c]
  exact ⟨rfl, rfl⟩
theorem Ton.run_next (t : Ton) (h : t.Good) (k : Nat) : t.run ((k + 1 : Nat) : Int) = (t.run k).next ∧ t.runs ((k + 1 : Nat) : Int) = t.runs k + (if (t.run k).turns = true then 1 else 0) := by
  obtain ⟨a, b, c⟩ := tone.run_next t.p t.c t.o k h.p0 h.c0 (by omega)
  have e : ((k + 1 : Nat) : Int) = (k : Int) + 1 := by omega
  unfold Ton.run Ton.runs Ton.next Ton.turns
  rw [e]
  simp only
  rw [a, b, c]
  exact ⟨rfl, rfl⟩
theorem Ton.runs_bd (t : Ton) (k : Nat) : 0 ≤ t.runs k ∧ t.runs k ≤ k := tone.runN_bd t.p t.c k (by omega)

/-- so many steps, at once -/
def Snd.leap (S : Snd) (s : Int) : Snd :=
  { S with t0 := S.t0.run s, t1 := S.t1.run s, t2 := S.t2.run s, n := (S.n.go true (S.t2.runs s).toNat).go false (s - S.t2.runs s).toNat }
/-- so many steps, one by one -/
def Snd.go (S : Snd) : Nat → Snd
  | 0 => S
  | k + 1 => (S.go k).step
theorem Snd.Good.go {S : Snd} (h : S.Good) (k : Nat) : (S.go k).Good := by
  induction k with
  | zero => exact h
  | succ k ih => exact ih.step
theorem Snd.go_more (S : Snd) (a b : Nat) : S.go (a + b) = (S.go a).go b := by
  induction b with
  | zero => rfl
  | succ b ih => show (S.go (a + b)).step = ((S.go a).go b).step; rw [ih]
theorem Snd.leap_go (S : Snd) (h : S.Good) (k : Nat) : S.leap k = S.go k := by
  induction k with
  | zero =>
    unfold Snd.leap
    have e : ((0 : Nat) : Int) = 0 := rfl
    rw [e, S.t0.run_zero.1, S.t1.run_zero.1, S.t2.run_zero.1, S.t2.run_zero.2]
    rfl
  | succ k ih =>
    show S.leap ((k + 1 : Nat) : Int) = (S.go k).step
    rw [← ih]
    obtain ⟨a0, -⟩ := S.t0.run_next h.t0 k
    obtain ⟨a1, -⟩ := S.t1.run_next h.t1 k
    obtain ⟨a2, a3⟩ := S.t2.run_next h.t2 k
    have b := S.t2.runs_bd k
    have hn : (S.n.go true (S.t2.runs ((k + 1 : Nat) : Int)).toNat).go false (((k + 1 : Nat) : Int) - S.t2.runs ((k + 1 : Nat) : Int)).toNat =
        ((S.n.go true (S.t2.runs k).toNat).go false ((k : Int) - S.t2.runs k).toNat).next (S.t2.run k).turns := by
      rw [a3]
      cases ht : (S.t2.run k).turns
      · have e1 : (S.t2.runs k + if false = true then 1 else 0) = S.t2.runs k := by simp
        rw [e1]
        have e2 : (((k + 1 : Nat) : Int) - S.t2.runs k).toNat = ((k : Int) - S.t2.runs k).toNat + 1 := by omega
        rw [e2]
        rfl
      · have e1 : (S.t2.runs k + if true = true then 1 else 0) = S.t2.runs k + 1 := by simp
        rw [e1]
        have e2 : (((k + 1 : Nat) : Int) - (S.t2.runs k + 1)).toNat = ((k : Int) - S.t2.runs k).toNat := by omega
        have e3 : (S.t2.runs k + 1).toNat = (S.t2.runs k).toNat + 1 := by omega
        rw [e2, e3]
        exact Noi.go_comm _ _
    unfold Snd.leap Snd.step
    rw [hn, a0, a1, a2]

/-- the samples of so many steps: behind each whose number and phase together are a multiple of every -/
def Snd.heard (S : Snd) (every phase : Int) : Nat → List Int
  | 0 => []
  | k + 1 => S.heard every phase k ++ (if ((k : Int) + 1 + phase) % every = 0 then [(S.go (k + 1)).sample] else [])
theorem Snd.heard_succ (S : Snd) (every phase : Int) (k : Nat) : S.heard every phase (k + 1) = S.heard every phase k ++ (if ((k : Int) + 1 + phase) % every = 0 then [(S.go (k + 1)).sample] else []) := rfl
theorem Snd.heard_none (S : Snd) (every phase : Int) (d x : Nat) (h : ∀ y : Nat, 1 ≤ y → y ≤ x → ¬ ((d : Int) + y + phase) % every = 0) : S.heard every phase (d + x) = S.heard every phase d := by
  induction x with
  | zero => rfl
  | succ x ih =>
    rw [show d + (x + 1) = (d + x) + 1 from rfl, S.heard_succ, ih (fun y h1 h2 => h y h1 (by omega))]
    have := h (x + 1) (by omega) (by omega)
    rw [if_neg (by have e : ((d + x : Nat) : Int) + 1 + phase = (d : Int) + ((x + 1 : Nat) : Int) + phase := by omega
                   rw [e]; exact this)]
    simp
theorem Snd.heard_one (S : Snd) (every phase : Int) (d x : Nat) (hx : 1 ≤ x) (h : ∀ y : Nat, 1 ≤ y → y < x → ¬ ((d : Int) + y + phase) % every = 0) (h0 : ((d : Int) + x + phase) % every = 0) :
    S.heard every phase (d + x) = S.heard every phase d ++ [(S.go (d + x)).sample] := by
  obtain ⟨z, rfl⟩ : ∃ z, x = z + 1 := ⟨x - 1, by omega⟩
  have e : ((d + z : Nat) : Int) + 1 + phase = (d : Int) + ((z + 1 : Nat) : Int) + phase := by omega
  rw [← e] at h0
  rw [show d + (z + 1) = (d + z) + 1 from rfl, S.heard_succ, S.heard_none every phase d z (fun y h1 h2 => h y h1 (by omega)), if_pos h0]
theorem Snd.heard_more (S : Snd) (every phase : Int) (a b : Nat) :
    S.heard every phase (a + b) = S.heard every phase a ++ (S.go a).heard every ((phase + a) % every) b := by
  induction b with
  | zero => simp [Snd.heard]
  | succ b ih =>
    rw [show a + (b + 1) = (a + b) + 1 from rfl, S.heard_succ, (S.go a).heard_succ, ih, List.append_assoc]
    congr 2
    have e : (((a + b : Nat) : Int) + 1 + phase) % every = ((b : Int) + 1 + (phase + a) % every) % every := by
      rw [Int.add_emod ((b : Int) + 1) ((phase + a) % every), Int.emod_emod, ← Int.add_emod]
      congr 1; omega
    rw [e, ← S.go_more]
    rfl
theorem Snd.heard_len (S : Snd) (every phase : Int) (k : Nat) : (S.heard every phase k).length ≤ k := by
  induction k with
  | zero => simp [Snd.heard]
  | succ k ih =>
    show (S.heard every phase k ++ _).length ≤ _
    rw [List.length_append]
    split <;> simp <;> omega

end Go.Proofs.YtnkfelflpkbobaaDoor
