/-
  The document's Bits, by one contract: the sixteen bits of a row, the lowest first.
-/
import Derived.Test.YtnkfelflpkbobaaDoorNoiseMath
import Derived.Test.YtnkfelflpkbobaaDoorRow
namespace Go.Proofs.YtnkfelflpkbobaaDoor
open Go.RowKit

/-- the bits below place k; noughts behind -/
def bitsTo (x : Int) (k : Nat) : List Int := (List.range 16).map fun j => if j < k then x / 2 ^ j % 2 else 0
theorem bitsTo_length (x : Int) (k : Nat) : (bitsTo x k).length = 16 := by simp [bitsTo]
theorem bitsTo_next (x : Int) (k : Nat) : (bitsTo x k).set k (x / 2 ^ k % 2) = bitsTo x (k + 1) := by
  apply List.ext_getElem
  · simp [bitsTo]
  · intro i h1 h2
    simp [bitsTo, List.getElem_set]
    by_cases h : k = i
    · subst h; simp
    · rw [if_neg h]
      have e : (i < k + 1) ↔ i < k := by omega
      simp only [e]
def bitsOf (x : Int) : List Int := [x % 2, x / 2 % 2, x / 4 % 2, x / 8 % 2, x / 16 % 2, x / 32 % 2, x / 64 % 2, x / 128 % 2, x / 256 % 2, x / 512 % 2, x / 1024 % 2, x / 2048 % 2, x / 4096 % 2, x / 8192 % 2, x / 16384 % 2, x / 32768 % 2]
theorem bitsTo_all (x : Int) : bitsTo x 16 = bitsOf x := by
  simp [bitsTo, bitsOf, List.range_succ]
theorem half (x : Int) (k : Nat) (_h0 : 0 ≤ x) : x / 2 ^ k / 2 = x / 2 ^ (k + 1) := by
  rw [Int.pow_succ, Int.ediv_ediv_of_nonneg (Int.le_of_lt (Int.pow_pos (by omega)))]
theorem half_bd (x : Int) (k : Nat) (h0 : 0 ≤ x) : 0 ≤ x / 2 ^ k ∧ x / 2 ^ k ≤ x :=
  ⟨Int.ediv_nonneg h0 (Int.le_of_lt (Int.pow_pos (by omega))), Int.ediv_le_self _ h0⟩

theorem size16 : (Tryd.prog.info? 52).map (·.size) = some 16 := by kernel_rfl
theorem load16 {w : World} {ops : Array Oper} {rest : List Oper} {o : Oper} {a : Act} {Q : Exit → Act → World → Prop} (hgd : o.guard = none) (x : Operand) (ho : o.op = .load 52 x)
    (g : Nat) (hx : a.eval x = .pointer (some ⟨g, 0, none⟩)) (t : TypeId) (zs : List Int) (hg : Whole w g t (i64s zs)) (hl : zs.length = 16)
    (h : wpList Tryd.prog ops Q rest (a.put o.dst (.agg (i64s zs).toArray)) w) : wpList Tryd.prog ops Q (o :: rest) a w :=
  load_row hgd 52 x ho g hx t (i64s zs) _ hg Tryd.underlying52 rfl (by rw [size16, i64s_length, hl]) h
theorem store16 {w : World} {ops : Array Oper} {rest : List Oper} {o : Oper} {a : Act} {Q : Exit → Act → World → Prop} (hgd : o.guard = none) (x y : Operand) (ho : o.op = .store 52 x y)
    (g : Nat) (hx : a.eval x = .pointer (some ⟨g, 0, none⟩)) (zs : List Int) (hy : a.eval y = .agg (i64s zs).toArray) (t : TypeId) (old : List Int) (hg : Whole w g t (i64s old)) (hl : zs.length = 16) (hl2 : old.length = 16)
    (h : ∀ w', Hid (Whole w' g t (i64s zs)) → w.grownBy w' (some g) → wpList Tryd.prog ops Q rest (a.put o.dst undef) w') : wpList Tryd.prog ops Q (o :: rest) a w :=
  store_row hgd 52 x y ho g hx (i64s zs) hy t (i64s old) hg (by rw [size16, i64s_length, hl]) (by rw [i64s_length, i64s_length, hl, hl2]) (i64s_one _) h
theorem results16 {fn : Func} {p : Tmp} (h : fn.results = #[.cell p 52]) (tmps : Array Value) (w : World) (g : Nat) (t : TypeId) (zs : List Int) 
    (hp : tmps.getD p undef = .pointer (some ⟨g, 0, none⟩)) (hg : Whole w g t (i64s zs)) (hl : zs.length = 16) : (results fn tmps).run Tryd.prog w = .ok (.agg (i64s zs).toArray) w :=
  results_row h tmps w g t (i64s zs) _ hp hg Tryd.underlying52 rfl (by rw [size16, i64s_length, hl])

set_option maxHeartbeats 1600000 in
theorem rbits_any (x : Int) (h0 : 0 ≤ x) (h1 : x < 65536) (w : World) :
    Calls Tryd.prog 41 #[.int .u16 x] w fun e w' => e = .returned (.agg (i64s (bitsOf x)).toArray) ∧ Below w.heap.size w w' := by
  go_enter Tryd.func41, Tryd.ntmps41
  go_wp2
  go_loopw [4, 9] (fun n i wr => ∃ k : Nat, k ≤ 16 ∧ i = .int .i64 k ∧ n = .int .i64 (x / 2 ^ k) ∧ Hid (Whole wr (w.heap.size + 1) 52 (i64s (bitsTo x k))) ∧ Hid (Whole wr w.heap.size 52 (i64s (bitsTo 0 0))) ∧ Hid (Below w.heap.size w wr) ∧ w.heap.size + 1 < wr.heap.size) (fun _ i _ => 16 - (intOf i).toNat)
  case atStart =>
    refine ⟨0, by omega, rfl, by simp, ?_, ?_, ?_, by simp⟩
    · show Whole _ _ _ _
      have h := Whole.fresh (w.alloc (.cells (i64s (bitsTo x 0)).toArray 52)) 52 (i64s (bitsTo x 0))
      rw [show (w.alloc (.cells (i64s (bitsTo x 0)).toArray 52)).heap.size = w.heap.size + 1 by simp] at h
      exact h
    · show Whole _ _ _ _
      exact Whole.beside (Whole.fresh w 52 (i64s (bitsTo 0 0))) _
    · show Below _ _ _
      repeat (first | exact Below.refl _ _ | refine Below.alloc ?_ (by simp) _)
  case round =>
    obtain ⟨k, hk, rfl, rfl, HT, HR, HB, hz⟩ := hrel
    obtain ⟨q0, q1⟩ := half_bd x k h0
    have HN := Lib.hid (half x k h0)
    have HS := Lib.hid (bitsTo_next x k)
    by_cases hlt : k < 16
    · have c := HT.out.at_ k
      rw [i64s_get, List.getElem?_eq_getElem (by rw [bitsTo_length]; exact hlt)] at c
      have f := HT.out.free k
      obtain ⟨n, hn⟩ : ∃ n, n = x / 2 ^ k := ⟨_, rfl⟩
      rw [← hn] at HN HS q0 q1 ⊢
      clear hn
      go_wp2
      go_roundw
      case rel =>
        refine ⟨k + 1, by omega, by go_num, by rw [← HN.out], ?_, ?_, ?_, by simpa using hz⟩
        · show Whole _ _ _ _
          rw [← HS.out, ← i64s_set]
          exact HT.out.put k _
        · show Whole _ _ _ _
          exact HR.out.other (by simp) _
        · show Below _ _ _
          exact HB.out.setCell (by simp) _
      case measure => simp [intOf]; omega
    · obtain rfl : k = 16 := by omega
      rw [bitsTo_all] at HT
      clear HN HS
      have l0 := bitsTo_length 0 0
      have l1 : (bitsOf x).length = 16 := rfl
      go_wp2_with (first
        | (with_reducible refine load16 rfl (.tmp 3) rfl _ rfl _ _ HT.out l1 ?_)
        | (with_reducible refine store16 rfl (.tmp 2) (.tmp 19) rfl _ rfl (bitsOf x) rfl _ _ HR.out l1 l0 ?_; intro w2 HW HG))
      refine bodyPost_ret (v := .agg (i64s (bitsOf x)).toArray) (results16 Tryd.results41 _ _ _ _ _ rfl HW.out rfl) rfl ⟨rfl, ?_⟩
      exact HB.out.trans (grown_below HG (Nat.le_refl _) (by omega))

end Go.Proofs.YtnkfelflpkbobaaDoor
