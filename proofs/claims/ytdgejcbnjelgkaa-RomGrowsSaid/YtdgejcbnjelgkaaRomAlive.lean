/-
  The law's own helper romAlive answers true: of no bytes there is a bank, of one more than a bank has there are two, and their sums differ.
-/
import Derived.Test.YtdgejcbnjelgkaaRomTells
namespace Go.Proofs.Ytdgejcbnjelgkaa
open Go.RowKit

def zeros (n : Nat) : List Int := List.replicate n 0
theorem zeros_length (n : Nat) : (zeros n).length = n := by simp [zeros]
theorem romOf_zeros (n : Nat) (h : n ≤ 4194304) : romOf (zeros n) = zeros ((bk n).toNat * 16384) := by
  have := bk_room n h
  rw [romOf, zeros_length, zeros, zeros, List.replicate_append_replicate]
  congr 1; omega

theorem xor_zero (s : Int) (h0 : 0 ≤ s) (h1 : s < 4294967296) : bits .xor .u32 s 0 = s := by
  show IntKind.u32.wrap ((BitVec.ofInt 32 s ^^^ BitVec.ofInt 32 0).toNat : Int) = s
  have e : BitVec.ofInt 32 0 = 0#32 := rfl
  rw [e, BitVec.xor_zero, BitVec.toNat_ofInt, IntKind.wrap_u32]
  omega
theorem fnv_zeros (n : Nat) : fnv (zeros n) = ((2166136261 * 16777619 ^ n % 4294967296 : Nat) : Int) := by
  induction n with
  | zero => decide
  | succ n ih =>
    have e : fnv (zeros (n + 1)) = fnvF (fnv (zeros n)) 0 := by
      rw [zeros, List.replicate_succ', fnv, List.foldl_append]; rfl
    rw [e, ih, fnvF]
    rw [show (0 : Int) % 4294967296 = 0 from rfl, xor_zero _ (by omega) (by omega), Nat.pow_succ, ← Nat.mul_assoc]
    generalize 2166136261 * 16777619 ^ n = k
    omega
theorem fnv_apart : fnv (zeros 16384) ≠ fnv (zeros 32768) := by
  rw [fnv_zeros, fnv_zeros]
  intro h
  have h2 := Int.ofNat_inj.1 h
  revert h2
  decide +kernel

theorem zeros_make (n : Nat) (h : n ≤ 2147483647) (w : World) :
    (Instr.makeSlice 25 (.int .i64 (n : Int)) (.int .i64 (n : Int))).run Try.prog w = .ok (.slice (some ⟨w.heap.size, 0, none⟩) n n) (w.alloc (.cells (u8s (zeros n)).toArray 5)) := by
  obtain ⟨i0, hi, hz0, hz1, hz2⟩ := info_parts u8_info
  have hr := run_make (P := Try.prog) w 25 5 i0 (.int .u8 0) Try.underlying25 hi hz0 .i64 .i64 (n : Int) (n : Int) (by omega) (by omega) (by rw [hz2]; omega) (by omega)
  rw [hr]
  rw [Int.toNat_natCast, hz1, Nat.mul_one]
  congr 3
  apply Array.ext'
  rw [show (Value.int IntKind.u8 0).cells = #[Value.int IntKind.u8 0] from rfl, toList_madeCells_one]
  simp [u8s, zeros]

/-- New, the new block's number left open -/
theorem new_open (a : Option Addr) (n cap : Nat) (zs : List Int) (w : World) (hb : Bytes w w.heap.size a n zs) (hn : n ≤ 4194304) (hc : n ≤ cap) :
    Calls Try.prog 8 #[.slice a n cap] w fun e w' => ∃ g, e = .returned (.pointer (some ⟨g, 0, none⟩)) ∧ w.heap.size ≤ g ∧ Below w.heap.size w w' ∧ RomAt w' g (romOf zs) :=
  (new_small a n cap zs w hb hn hc).mono fun _ _ ⟨he, h1, h2⟩ => ⟨_, he, by omega, h1, _, h2⟩

theorem nil_bytes (w : World) (B : Nat) : Bytes w B none 0 [] := ⟨rfl, fun h => absurd h (by omega)⟩

theorem make16385 (w : World) : (Instr.makeSlice 25 (.int .i64 16385) (.int .i64 16385)).run Try.prog w = .ok (.slice (some ⟨w.heap.size, 0, none⟩) 16385 16385) (w.alloc (.cells (u8s (zeros 16385)).toArray 5)) := zeros_make 16385 (by omega) w
theorem bytes16385 (w : World) : Bytes (w.alloc (.cells (u8s (zeros 16385)).toArray 5)) (w.alloc (.cells (u8s (zeros 16385)).toArray 5)).heap.size (some ⟨w.heap.size, 0, none⟩) 16385 (zeros 16385) := by
  have h := Bytes.ofWhole (Whole.fresh w 5 (u8s (zeros 16385)))
  rwa [zeros_length] at h
theorem Bytes.next {w w' : World} {a : Option Addr} {n : Nat} {zs : List Int} (h : Bytes w w.heap.size a n zs) (hb : Below w.heap.size w w') : Bytes w' w'.heap.size a n zs := (h.under hb).more hb.size

theorem RomAt.next {w w' : World} {g : Nat} {zs : List Int} (h : RomAt w g zs) (hb : Below w.heap.size w w') : RomAt w' g zs := by
  obtain ⟨d, k, sem, s, h1, h2, h3⟩ := h
  exact ⟨d, k, sem, s, h1.under hb h1.inside, h2.under hb h2.inside, h3⟩
theorem RomAt.inside {w : World} {g : Nat} {zs : List Int} (h : RomAt w g zs) : g < w.heap.size := by
  obtain ⟨d, k, sem, s, h1, h2, h3⟩ := h
  exact h1.inside
theorem RomAt.beside {w w' : World} {g g' : Nat} {zs zs' : List Int} (h : RomAt w g zs) (h' : RomAt w g' zs') (hne : g ≠ g') (hg : w.grownBy w' (some g')) : RomAt w' g zs := by
  obtain ⟨d, k, sem, s, h1, h2, h3⟩ := h
  obtain ⟨d', k', sem', s', h1', h2', h3'⟩ := h'
  have : d ≠ g' := h2.apart h1' (by decide)
  exact ⟨d, k, sem, s, h1.grown hg (by simpa using hne), h2.grown hg (by simpa using this), h3⟩
theorem below_next {w w1 w2 : World} (h : Below w.heap.size w w1) (hb : Below w1.heap.size w1 w2) : Below w.heap.size w w2 := h.trans (hb.mono h.size)
theorem below_row {w w1 w2 : World} {g : Nat} (h : Below w.heap.size w w1) (hb : w1.grownBy w2 (some g)) (hg : w.heap.size ≤ g) : Below w.heap.size w w2 :=
  h.grown hb h.size (by intro k hk; cases hk; exact hg)
theorem fit_nil : RomFit (romOf []) 1 := romOf_fit [] (by simp)
theorem fit_16385 : RomFit (romOf (zeros 16385)) 2 := by
  have h := romOf_fit (zeros 16385) (by rw [zeros_length]; omega)
  rw [zeros_length] at h
  exact h
theorem romOf_nil_length : (romOf []).length = 16384 := by rw [romOf_length [] (by simp)]; rfl
theorem sums_apart : (fnv (romOf []) != fnv (romOf (zeros 16385))) = true := by
  have h1 : romOf [] = zeros 16384 := romOf_zeros 0 (by omega)
  have h2 : romOf (zeros 16385) = zeros 32768 := romOf_zeros 16385 (by omega)
  rw [h1, h2]
  simpa using fnv_apart

set_option maxRecDepth 100000 in
set_option maxHeartbeats 1600000 in
theorem alive_any (w : World) : Calls Try.prog 7 #[] w fun e w' => e = .returned (.bool true) ∧ Below w.heap.size w w' := by
  have hmk := make16385
  go_enter Try.func7, Try.ntmps7
  go_wp2_with fail
  go_region_with (first
    | (go_at_call_of 8 (Value.slice none 0 0); refine (new_open none 0 0 [] _ (nil_bytes _ _) (by omega) (by omega)).mono ?_; rintro e w1 ⟨g1, rfl, hg1, hb1, hr1⟩)
    | (go_at_call 8; refine (new_open _ 16385 16385 (zeros 16385) _ (by first | exact bytes16385 w1 | exact Bytes.next (bytes16385 w).drawn hb1) (by omega) (by omega)).mono ?_; rintro e w2 ⟨g2, rfl, hg2, hb2, hr2⟩))
  case' refine_1.refine_1.refine_1.refine_3.refine_3 =>
    have F : Hid (g1 ≠ g2 ∧ RomAt w2 g1 (romOf []) ∧ RomAt w2 g2 (romOf (zeros 16385)) ∧ Below w.heap.size w w2 ∧ w.heap.size ≤ g1 ∧ w.heap.size ≤ g2) := by
      have b1 : Below w.heap.size w w1 := ((Below.refl _ _).drew).trans hb1
      have a1 : Below w1.heap.size w1 (w1.alloc (.cells (u8s (zeros 16385)).toArray 5)) := (Below.refl _ _).alloc (Nat.le_refl _) _
      have := b1.size
      have := a1.size
      have := hr1.inside
      have hg1' : w.heap.size ≤ g1 := hg1
      exact ⟨by omega, (hr1.next a1).next hb2, hr2, below_next (below_next b1 a1) hb2, by omega, by omega⟩
  case' refine_2.refine_1.refine_1.refine_1.refine_3.refine_3 =>
    have F : Hid (g1 ≠ g2 ∧ RomAt w2 g1 (romOf []) ∧ RomAt w2 g2 (romOf (zeros 16385)) ∧ Below w.heap.size w w2 ∧ w.heap.size ≤ g1 ∧ w.heap.size ≤ g2) := by
      have a1 : Below w.heap.size w (w.alloc (.cells (u8s (zeros 16385)).toArray 5)).drew := ((Below.refl _ _).alloc (Nat.le_refl _) _).drew
      have b1 := below_next a1 hb1
      have := b1.size
      have := a1.size
      have := hr1.inside
      exact ⟨by omega, hr1.next hb2, hr2, below_next b1 hb2, by omega, by omega⟩
  all_goals
    clear hb2 hr2 hg2 hb1 hr1 hg1
    go_wp2_with (first
      | (go_at_call_of 10 (Value.pointer (some ⟨g1, 0, none⟩)); refine (banks_any g1 _ 1 fit_nil _ F.out.2.1).mono ?_; rintro e w' ⟨rfl, rfl⟩)
      | (go_at_call 10; refine (banks_any g2 _ 2 fit_16385 _ F.out.2.2.1).mono ?_; rintro e w' ⟨rfl, rfl⟩)
      | (go_at_call 14; refine (bytes_any g1 _ 1 fit_nil _ F.out.2.1).mono ?_; rintro e w3 ⟨rfl, -, hb3⟩)
      | (go_at_call_of 15 (Value.pointer (some ⟨g1, 0, none⟩)); refine (sum_any g1 _ 1 fit_nil _ (F.out.2.1.next hb3)).mono ?_; rintro e w4 ⟨rfl, hr4, hg4⟩)
      | (go_at_call 15; refine (sum_any g2 _ 2 fit_16385 _ ((F.out.2.2.1.next hb3).beside (F.out.2.1.next hb3) (Ne.symm F.out.1) hg4)).mono ?_; rintro e w5 ⟨rfl, hr5, hg5⟩))
    go_ret
    exact ⟨congrArg (fun b => Ending.returned (.bool b)) sums_apart, below_row (below_row (below_next F.out.2.2.2.1 hb3) hg4 F.out.2.2.2.2.1) hg5 F.out.2.2.2.2.2⟩

end Go.Proofs.Ytdgejcbnjelgkaa
