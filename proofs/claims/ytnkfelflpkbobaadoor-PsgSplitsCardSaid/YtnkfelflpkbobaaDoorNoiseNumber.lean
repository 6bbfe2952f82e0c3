/-
  The document's Number and Move, each by one contract.
-/
import Derived.Test.YtnkfelflpkbobaaDoorNoiseRef
import Derived.Test.YtnkfelflpkbobaaDoorNoiseKinds
namespace Go.Proofs.YtnkfelflpkbobaaDoor
open Go.RowKit

/-- the number of a row of bits, the lowest first -/
def numOf : List Int → Int
  | [] => 0
  | b :: r => b + 2 * numOf r
theorem numOf_bd (l : List Int) (hb : ∀ b ∈ l, 0 ≤ b ∧ b ≤ 1) : 0 ≤ numOf l ∧ numOf l < 2 ^ l.length := by
  induction l with
  | nil => simp [numOf]
  | cons b r ih =>
    obtain ⟨i0, i1⟩ := ih fun x hx => hb x (by simp [hx])
    obtain ⟨b0, b1⟩ := hb b (by simp)
    simp only [numOf, List.length_cons, Int.pow_succ]
    omega
theorem numOf_drop (l : List Int) (k : Nat) (h : k < l.length) : numOf (l.drop k) = l[k] + 2 * numOf (l.drop (k + 1)) := by
  rw [List.drop_eq_getElem_cons h]; rfl
theorem pow_mono16 (n : Nat) (h : n ≤ 16) : (2 : Int) ^ n ≤ 65536 := by
  have : (2 : Nat) ^ n ≤ 2 ^ 16 := Nat.pow_le_pow_right (by omega) h
  have h2 : ((2 ^ n : Nat) : Int) ≤ ((2 ^ 16 : Nat) : Int) := Int.ofNat_le.2 this
  simpa using h2
theorem numOf_drop_bd (l : List Int) (k : Nat) (hl : l.length = 16) (hb : ∀ b ∈ l, 0 ≤ b ∧ b ≤ 1) : 0 ≤ numOf (l.drop k) ∧ numOf (l.drop k) < 65536 := by
  obtain ⟨h0, h1⟩ := numOf_bd (l.drop k) fun b h => hb b (List.mem_of_mem_drop h)
  have := pow_mono16 (l.drop k).length (by rw [List.length_drop]; omega)
  omega

set_option maxHeartbeats 1600000 in
theorem number_any (l : List Int) (hl : l.length = 16) (hb : ∀ b ∈ l, 0 ≤ b ∧ b ≤ 1) (w : World) :
    Calls Tryd.prog 42 #[.agg (i64s l).toArray] w fun e w' => e = .returned (.int .u16 (numOf l)) ∧ Below w.heap.size w w' := by
  have H1 : Hid (Whole (w.alloc (.cells (i64s l).toArray 52)) w.heap.size 52 (i64s l)) := Whole.fresh _ _ _
  have HB := Lib.hid hb
  have H0 : Hid (0 ≤ numOf l ∧ numOf l < 65536) := numOf_drop_bd l 0 hl hb
  clear hb
  have hL : (i64s l).length = 16 := by simp [hl]
  go_enter Tryd.func42, Tryd.ntmps42
  go_wp2
  go_loop [3, 4] (fun n i => ∃ k : Nat, k ≤ 16 ∧ i = .int .i64 ((k : Int) - 1) ∧ n = .int .i64 (numOf (l.drop k))) (fun _ i => (intOf i + 1).toNat)
  case atStart => exact ⟨16, by omega, rfl, by rw [List.drop_of_length_le (by omega)]; rfl⟩
  case round =>
    obtain ⟨k, hk, rfl, rfl⟩ := hrel
    obtain ⟨n0, n1⟩ := numOf_drop_bd l k hl HB.out
    by_cases hlt : 0 < k
    · obtain ⟨j, rfl⟩ : ∃ j, k = j + 1 := ⟨k - 1, by omega⟩
      have hj : j < l.length := by omega
      have c := H1.out.at_ j
      rw [i64s_get, List.getElem?_eq_getElem hj] at c
      have f := H1.out.free j
      have b := HB.out l[j] (List.getElem_mem hj)
      have HN := Lib.hid (numOf_drop l j hj)
      obtain ⟨n, hn⟩ : ∃ n, n = numOf (l.drop (j + 1)) := ⟨_, rfl⟩
      obtain ⟨z, hz⟩ : ∃ z, z = l[j] := ⟨_, rfl⟩
      rw [← hn, ← hz] at HN
      rw [← hz] at c b
      rw [← hn] at n0 n1 ⊢
      clear hn hz
      go_wp2
      go_round
      case rel => exact ⟨j, by omega, by simp, by rw [HN.out, Int.add_comm]⟩
      case measure => simp [intOf]
    · obtain rfl : k = 0 := by omega
      go_wp2_with fail
      go_ret
      have hw : IntKind.u16.wrap (numOf l) = numOf l := by rw [IntKind.wrap_u16]; have := H0.out; omega
      exact ⟨congrArg (fun z => Ending.returned (.int .u16 z)) hw, (Below.refl _ _).alloc (Nat.le_refl _) _⟩

/-- what has been laid into the new row behind k rounds -/
def outTo (x : Int) (k : Nat) : List Int := (List.range 16).map fun j => if j < k then x / 2 ^ (j + 1) % 2 else 0
theorem outTo_length (x : Int) (k : Nat) : (outTo x k).length = 16 := by simp [outTo]
theorem outTo_next (x : Int) (k : Nat) : (outTo x k).set k (x / 2 ^ (k + 1) % 2) = outTo x (k + 1) := by
  apply List.ext_getElem
  · simp [outTo]
  · intro i h1 h2
    simp [outTo, List.getElem_set]
    by_cases h : k = i
    · subst h; simp
    · rw [if_neg h]
      have e : (i < k + 1) ↔ i < k := by omega
      simp only [e]
theorem bitsOf_get (x : Int) (k : Nat) (h : k < 16) : (i64s (bitsOf x))[k]? = some (.int .i64 (x / 2 ^ k % 2)) := by
  rw [← bitsTo_all, i64s_get, List.getElem?_eq_getElem (by rw [bitsTo_length]; exact h)]
  simp [bitsTo, h]
theorem outTo_all (x t : Int) : (outTo x 15).set 15 t = [x / 2 % 2, x / 4 % 2, x / 8 % 2, x / 16 % 2, x / 32 % 2, x / 64 % 2, x / 128 % 2, x / 256 % 2, x / 512 % 2, x / 1024 % 2, x / 2048 % 2, x / 4096 % 2, x / 8192 % 2, x / 16384 % 2, x / 32768 % 2, t] := by
  simp [outTo, List.range_succ]
theorem numOf_out (x t : Int) (h0 : 0 ≤ x) (h1 : x < 65536) : numOf ((outTo x 15).set 15 t) = x / 2 + 32768 * t := by
  rw [outTo_all]
  simp only [numOf]
  omega
theorem outTo_bits (x t : Int) (ht : 0 ≤ t ∧ t ≤ 1) : ∀ b ∈ (outTo x 15).set 15 t, 0 ≤ b ∧ b ≤ 1 := by
  rw [outTo_all]
  intro b hb
  simp only [List.mem_cons, List.not_mem_nil, or_false] at hb
  omega
/-- the bit at the top, as a number -/
def topN (x : Int) (wh : Bool) : Int := if wh = true then (x % 2 + x / 8 % 2) % 2 else x % 2
theorem move_top (x : Int) (wh : Bool) : moveOf x wh = x / 2 + 32768 * topN x wh := by
  unfold moveOf topOf topN
  cases wh
  · by_cases h : x % 2 = 1 <;> simp [h] <;> omega
  · by_cases h : x % 2 = 1 <;> by_cases h8 : x / 8 % 2 = 1 <;> simp [h, h8] <;> omega
theorem topN_bd (x : Int) (wh : Bool) : 0 ≤ topN x wh ∧ topN x wh ≤ 1 := by unfold topN; split <;> omega

theorem agg16 : Agg Tryd.prog 52 16 := ⟨⟨_, Tryd.underlying52, rfl⟩, by kernel_rfl⟩
theorem zero16 : Zero Tryd.prog 52 (i64s (bitsTo 0 0)) := ⟨.agg (i64s (bitsTo 0 0)).toArray, fun _ => by kernel_rfl, rfl⟩
theorem built16 : Tryd.prog.built 52 [] = some (i64s (bitsTo 0 0)).toArray := by kernel_rfl

theorem out_cells (x : Int) {w : World} {g : Nat} {t : TypeId} (h : Whole w g t (i64s (bitsOf x))) : w.cell? ⟨g, 0, none⟩ = some (.int .i64 (x % 2)) ∧ w.cell? ⟨g, 3, none⟩ = some (.int .i64 (x / 8 % 2)) := ⟨h.at_ 0, h.at_ 3⟩

set_option maxHeartbeats 3200000 in
theorem rmove_any (x : Int) (wh : Bool) (h0 : 0 ≤ x) (h1 : x < 65536) (w : World) :
    Calls Tryd.prog 37 #[.int .u16 x, .bool wh] w fun e w' => e = .returned (.int .u16 (moveOf x wh)) ∧ Below w.heap.size w w' := by
  have HM := Lib.hid (Own.start w)
  have tg1 : Hid True := trivial
  have tg2 : Hid True := trivial
  go_enter Tryd.func37, Tryd.ntmps37
  go_wp2_with (first
    | ((with_reducible apply own_alloc HM); exact rfl; (with_reducible exact zero16); exact rfl; (first | (clear tg1; intro w' gx HM') | (clear tg2; intro w' go HM')); clear HM; have HM := HM'; clear HM'; all_goals skip)
    | ((with_reducible apply own_lay HM); exact rfl; exact rfl; exact rfl; (first | with_reducible exact .z | with_reducible exact .s .z); (first | with_reducible exact .z | with_reducible exact .s .z); (with_reducible exact agg16.size); exact rfl; exact rfl; (first | exact i64s_one _ | exact rfl); exact rfl; exact rfl; intro w' HM'; clear HM; have HM := HM'; clear HM'; all_goals skip)
    | (go_at_call 41; refine (rbits_any x h0 h1 _).mono ?_; rintro e w1 ⟨rfl, hb⟩; have HM' := Lib.hid (HM.out.call hb); clear HM hb; have HM := HM'; clear HM'))
  have HA : Hid (Own w _ [(go, 52, i64s (outTo x 0)), (gx, 52, i64s (bitsOf x))]) := HM
  clear HM
  go_loopw [7] (fun i wr => ∃ k : Nat, k ≤ 15 ∧ i = .int .i64 k ∧ Hid (Own w wr [(go, 52, i64s (outTo x k)), (gx, 52, i64s (bitsOf x))])) (fun i _ => 15 - (intOf i).toNat)
  case atStart => exact ⟨0, by omega, rfl, HA⟩
  case round =>
    obtain ⟨k, hk, rfl, HR⟩ := hrel
    clear HA
    by_cases hlt : k < 15
    · have c := (HR.out.at_ (.s .z)).at_ (k + 1)
      rw [bitsOf_get x (k + 1) (by omega)] at c
      have d := (HR.out.at_ .z).at_ k
      rw [i64s_get, List.getElem?_eq_getElem (by rw [outTo_length]; omega)] at d
      have f := (HR.out.at_ .z).free k
      go_wp2
      go_roundw
      case rel =>
        refine ⟨k + 1, by omega, by go_num, ?_⟩
        show Own _ _ _
        rw [← outTo_next, ← i64s_set]
        exact HR.out.of_cell k .z
      case measure => simp [intOf]; omega
    · obtain rfl : k = 15 := by omega
      have hlen : (i64s (outTo x 15)).length = 16 := by rw [i64s_length, outTo_length]
      have HM := HR
      clear HR
      have HE := Lib.hid (move_top x wh)
      have tb := topN_bd x wh
      have HT : Hid (topN x wh = if wh = true then (x % 2 + x / 8 % 2) % 2 else x % 2) := rfl
      obtain ⟨T, hT⟩ : ∃ T, T = topN x wh := ⟨_, rfl⟩
      rw [← hT] at HE tb HT
      clear hT
      obtain ⟨c0, c3⟩ := out_cells x (HM.out.at_ (.s .z))
      cases wh
      all_goals
        go_wp2_with (first
          | ((with_reducible apply own_put HM); exact rfl; exact rfl; (conv => lhs; whnf); (first | with_reducible exact .z | with_reducible exact .s .z); (first | with_reducible exact .z | with_reducible exact .s .z); (with_reducible exact oneInt.size); exact rfl; exact rfl; (first | simp [hlen] | rfl); exact rfl; intro w' HM'; clear HM c0 c3; have HM := HM'; clear HM'; obtain ⟨c0, c3⟩ := out_cells x (HM.out.at_ (.s .z)); all_goals skip)
          | ((with_reducible apply own_row HM); exact rfl; exact rfl; (with_reducible exact agg16); (first | with_reducible exact .z | with_reducible exact .s .z); exact rfl; (first | simp [hlen] | rfl); all_goals skip)
          | (go_at_call 42; (try rw [List.set_set]); rw [i64s_set]; refine (number_any ((outTo x 15).set 15 _) (by rw [List.length_set, outTo_length]) (by exact outTo_bits x _ ⟨by omega, by omega⟩) _).mono ?_; rintro e w2 ⟨rfl, hb⟩; have HM2 := Lib.hid (HM.out.call hb); clear hb))
      all_goals
        go_ret
        refine ⟨ret_u16 ?_, HM2.out.below⟩
        rw [numOf_out x _ h0 h1, HE.out, HT.out]
        simp

end Go.Proofs.YtnkfelflpkbobaaDoor
