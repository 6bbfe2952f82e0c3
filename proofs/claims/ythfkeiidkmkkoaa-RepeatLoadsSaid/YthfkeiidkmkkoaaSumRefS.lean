/-
  The document's flags, Shape, Byte, each by one contract.
-/
import Derived.Test.YthfkeiidkmkkoaaSumSpec
import Derived.Test.YthfkeiidkmkkoaaQuiet
import Derived.Test.YthfkeiidkmkkoaaIndex
namespace Go.Proofs.Ythfkeiidkmkkoaa
open Go.RowKit

theorem aggF : Agg Try.prog 40 8 := ⟨⟨_, Try.underlying40, rfl⟩, by kernel_rfl⟩
theorem oneInt : One Try.prog 3 := ⟨⟨_, Try.underlying3, rfl⟩, by kernel_rfl⟩
theorem oneBool : One Try.prog 4 := ⟨⟨_, Try.underlying4, rfl⟩, by kernel_rfl⟩
theorem oneU8 : One Try.prog 5 := ⟨⟨_, Try.underlying5, rfl⟩, by kernel_rfl⟩
theorem zeroF : Zero Try.prog 40 [.bool false, .bool false, .bool false, .bool false, .bool false, .bool false, .bool false, .bool false] :=
  ⟨.agg #[.bool false, .bool false, .bool false, .bool false, .bool false, .bool false, .bool false, .bool false], fun _ => by kernel_rfl, rfl⟩
theorem Own.fin {W0 w : World} {l : List (Nat × TypeId × List Value)} (h : Hid (Own W0 w l)) : Below W0.heap.size W0 w := h.out.below

/-- eight flags as a value -/
def flagsV (s z y h x p n c : Bool) : Value := .agg #[.bool s, .bool z, .bool y, .bool h, .bool x, .bool p, .bool n, .bool c]

theorem ret_truth' {a b : Bool} (h : a = b) : (Ending.returned (.bool a) : Ending) = .returned (.bool b) := by rw [h]
theorem bit_of (v k : Nat) (q : Int) (hq : q = ((v / k % 2 : Nat) : Int)) : (q == 1) = nBit k v := by
  rw [Bool.eq_iff_iff, beq_iff_eq]
  unfold nBit
  rw [Nat.beq_eq]
  show _ ↔ v / k % 2 = 1
  omega
theorem ge_of (v k : Nat) : decide ((k : Int) ≤ (v : Int)) = Nat.ble k v := by
  rw [Bool.eq_iff_iff, decide_eq_true_eq, Nat.ble_eq]; omega
theorem eq_of (v k : Nat) : ((v : Int) == (k : Int)) = Nat.beq v k := by
  rw [Bool.eq_iff_iff, beq_iff_eq, Nat.beq_eq]; omega

theorem flags_eq {a b c d e f g h a' b' c' d' e' f' g' h' : Bool} (e1 : a = a') (e2 : b = b') (e3 : c = c') (e4 : d = d') (e5 : e = e') (e6 : f = f') (e7 : g = g') (e8 : h = h') :
    (Ending.returned (.agg #[.bool a, .bool b, .bool c, .bool d, .bool e, .bool f, .bool g, .bool h]) : Ending) = .returned (flagsV a' b' c' d' e' f' g' h') := by subst e1 e2 e3 e4 e5 e6 e7 e8; rfl
set_option maxHeartbeats 800000 in
theorem of_at (f : Nat) (h : f < 256) (w : World) : Calls Try.prog 21 #[.int .u8 (f : Int)] w fun e w' =>
    e = .returned (flagsV (nBit 128 f) (nBit 64 f) (nBit 32 f) (nBit 16 f) (nBit 8 f) (nBit 4 f) (nBit 2 f) (nBit 1 f)) ∧ Below w.heap.size w w' := by
  have HM := Lib.hid (Own.start w)
  have tg1 : Hid True := trivial
  go_enter Try.func21, Try.ntmps21
  go_wp2_with (first
    | ((with_reducible apply own_box HM); exact rfl; (conv => lhs; whnf); exact rfl; exact rfl; (first | (clear tg1; intro w' g1 HM') | (clear tg2; intro w' g2 HM') | (clear tg3; intro w' g3 HM') | (clear tg4; intro w' g4 HM') | intro w' g' HM'); clear HM; have HM := HM'; clear HM'; all_goals skip) | ((with_reducible apply own_alloc HM); exact rfl; (first | (with_reducible exact zeroF)); exact rfl; (first | (clear tg1; intro w' g1 HM') | (clear tg2; intro w' g2 HM') | (clear tg3; intro w' g3 HM') | (clear tg4; intro w' g4 HM') | intro w' g' HM'); clear HM; have HM := HM'; clear HM'; all_goals skip) | ((with_reducible apply own_cell HM); exact rfl; exact rfl; (first | (with_reducible exact oneBool)); (first | with_reducible exact .z | with_reducible exact .s .z | with_reducible exact .s (.s .z) | with_reducible exact .s (.s (.s .z)) | with_reducible exact .s (.s (.s (.s .z))) | with_reducible exact .s (.s (.s (.s (.s .z))))); (focus repeat' (first | with_reducible exact .z | with_reducible apply Drop.s)); exact rfl; all_goals skip) | ((with_reducible apply own_load HM); exact rfl; exact rfl; (first | (with_reducible exact aggF)); (first | with_reducible exact .z | with_reducible exact .s .z | with_reducible exact .s (.s .z) | with_reducible exact .s (.s (.s .z)) | with_reducible exact .s (.s (.s (.s .z))) | with_reducible exact .s (.s (.s (.s (.s .z))))); (focus repeat' (first | with_reducible exact .z | with_reducible apply Drop.s)); (focus repeat' (first | with_reducible exact .z | with_reducible apply Take.s)); exact rfl; all_goals skip) | ((with_reducible apply own_store HM); exact rfl; exact rfl; (conv => lhs; whnf); exact rfl; (first | with_reducible exact .z | with_reducible exact .s .z | with_reducible exact .s (.s .z) | with_reducible exact .s (.s (.s .z)) | with_reducible exact .s (.s (.s (.s .z))) | with_reducible exact .s (.s (.s (.s (.s .z))))); (focus repeat' (first | with_reducible exact .z | with_reducible apply Over.p | with_reducible apply Over.s)); (first | with_reducible exact .z | with_reducible exact .s .z | with_reducible exact .s (.s .z) | with_reducible exact .s (.s (.s .z)) | with_reducible exact .s (.s (.s (.s .z))) | with_reducible exact .s (.s (.s (.s (.s .z))))); (first | (with_reducible exact (aggF).size) | (with_reducible exact (oneBool).size)); exact rfl; exact rfl; exact rfl; exact rfl; intro w' HM'; clear HM; have HM := HM'; clear HM'; all_goals skip))
  refine bodyPost_ret (v := .agg #[.bool _, .bool _, .bool _, .bool _, .bool _, .bool _, .bool _, .bool _]) (own_results HM Try.results21 _ rfl (by first | exact .z | exact .s .z) aggF) rfl ⟨?_, Own.fin HM⟩
  exact flags_eq (bit_of f 128 _ (by omega)) (bit_of f 64 _ (by omega)) (bit_of f 32 _ (by omega)) (bit_of f 16 _ (by omega)) (bit_of f 8 _ (by omega)) (bit_of f 4 _ (by omega)) (bit_of f 2 _ (by omega)) (bit_of f 1 _ (by omega))

set_option maxHeartbeats 800000 in
theorem rshape_any (v : Nat) (h : v < 256) (w : World) : Calls Try.prog 24 #[.int .u8 (v : Int)] w fun e w' =>
    e = .returned (flagsV (nS v) (nZ v) (nBit 32 v) false (nBit 8 v) false false false) ∧ Below w.heap.size w w' := by
  have HM := Lib.hid (Own.start w)
  have tg1 : Hid True := trivial
  go_enter Try.func24, Try.ntmps24
  go_wp2_with (first
    | ((with_reducible apply own_box HM); exact rfl; (conv => lhs; whnf); exact rfl; exact rfl; (first | (clear tg1; intro w' g1 HM') | (clear tg2; intro w' g2 HM') | (clear tg3; intro w' g3 HM') | (clear tg4; intro w' g4 HM') | intro w' g' HM'); clear HM; have HM := HM'; clear HM'; all_goals skip) | ((with_reducible apply own_alloc HM); exact rfl; (first | (with_reducible exact zeroF)); exact rfl; (first | (clear tg1; intro w' g1 HM') | (clear tg2; intro w' g2 HM') | (clear tg3; intro w' g3 HM') | (clear tg4; intro w' g4 HM') | intro w' g' HM'); clear HM; have HM := HM'; clear HM'; all_goals skip) | ((with_reducible apply own_cell HM); exact rfl; exact rfl; (first | (with_reducible exact oneBool)); (first | with_reducible exact .z | with_reducible exact .s .z | with_reducible exact .s (.s .z) | with_reducible exact .s (.s (.s .z)) | with_reducible exact .s (.s (.s (.s .z))) | with_reducible exact .s (.s (.s (.s (.s .z))))); (focus repeat' (first | with_reducible exact .z | with_reducible apply Drop.s)); exact rfl; all_goals skip) | ((with_reducible apply own_load HM); exact rfl; exact rfl; (first | (with_reducible exact aggF)); (first | with_reducible exact .z | with_reducible exact .s .z | with_reducible exact .s (.s .z) | with_reducible exact .s (.s (.s .z)) | with_reducible exact .s (.s (.s (.s .z))) | with_reducible exact .s (.s (.s (.s (.s .z))))); (focus repeat' (first | with_reducible exact .z | with_reducible apply Drop.s)); (focus repeat' (first | with_reducible exact .z | with_reducible apply Take.s)); exact rfl; all_goals skip) | ((with_reducible apply own_store HM); exact rfl; exact rfl; (conv => lhs; whnf); exact rfl; (first | with_reducible exact .z | with_reducible exact .s .z | with_reducible exact .s (.s .z) | with_reducible exact .s (.s (.s .z)) | with_reducible exact .s (.s (.s (.s .z))) | with_reducible exact .s (.s (.s (.s (.s .z))))); (focus repeat' (first | with_reducible exact .z | with_reducible apply Over.p | with_reducible apply Over.s)); (first | with_reducible exact .z | with_reducible exact .s .z | with_reducible exact .s (.s .z) | with_reducible exact .s (.s (.s .z)) | with_reducible exact .s (.s (.s (.s .z))) | with_reducible exact .s (.s (.s (.s (.s .z))))); (first | (with_reducible exact (aggF).size) | (with_reducible exact (oneBool).size)); exact rfl; exact rfl; exact rfl; exact rfl; intro w' HM'; clear HM; have HM := HM'; clear HM'; all_goals skip))
  refine bodyPost_ret (v := .agg #[.bool _, .bool _, .bool _, .bool _, .bool _, .bool _, .bool _, .bool _]) (own_results HM Try.results24 _ rfl (by first | exact .z | exact .s .z) aggF) rfl ⟨?_, Own.fin HM⟩
  exact flags_eq (ge_of v 128) (eq_of v 0) (bit_of v 32 _ (by omega)) rfl (bit_of v 8 _ (by omega)) rfl rfl rfl
theorem rshape_at (v : Nat) (s z y x : Bool) (h : v < 256) (hr : Hid (nS v = s ∧ nZ v = z ∧ nBit 32 v = y ∧ nBit 8 v = x)) (w : World) : Calls Try.prog 24 #[.int .u8 (v : Int)] w fun e w' =>
    e = .returned (.agg #[.bool s, .bool z, .bool y, .bool false, .bool x, .bool false, .bool false, .bool false]) ∧ Below w.heap.size w w' := by
  obtain ⟨rfl, rfl, rfl, rfl⟩ := hr.out; exact rshape_any v h w

/-- the first k flags of a row as a number -/
def preB (bs : Nat → Bool) : Nat → Nat
  | 0 => 0
  | k + 1 => 2 * preB bs k + cond (bs k) 1 0
theorem preB_lt (bs : Nat → Bool) (k : Nat) : preB bs k < 2 ^ k := by
  induction k with
  | zero => simp [preB]
  | succ k ih => rw [preB, Nat.pow_succ]; cases bs k <;> simp <;> omega
def rowB (s z y h x p n c : Bool) : Nat → Bool
  | 0 => s | 1 => z | 2 => y | 3 => h | 4 => x | 5 => p | 6 => n | _ => c
theorem preB_all (s z y h x p n c : Bool) : preB (rowB s z y h x p n c) 8 = nByte s z y h x p n c := by
  cases s <;> cases z <;> cases y <;> cases h <;> cases x <;> cases p <;> cases n <;> cases c <;> rfl
theorem idx8 (s z y h x p n c : Bool) (k : Nat) (hk : k < 8) (w : World) :
    (Instr.index 44 (.agg #[.bool s, .bool z, .bool y, .bool h, .bool x, .bool p, .bool n, .bool c]) (.int .i64 (k : Int))).run Try.prog w = .ok (.bool (rowB s z y h x p n c k)) w := by
  match k, hk with
  | 0, _ => exact (by kernel_rfl : (Instr.index 44 (.agg #[.bool s, .bool z, .bool y, .bool h, .bool x, .bool p, .bool n, .bool c]) (.int .i64 0)).run Try.prog w = .ok (.bool s) w)
  | 1, _ => exact (by kernel_rfl : (Instr.index 44 (.agg #[.bool s, .bool z, .bool y, .bool h, .bool x, .bool p, .bool n, .bool c]) (.int .i64 1)).run Try.prog w = .ok (.bool z) w)
  | 2, _ => exact (by kernel_rfl : (Instr.index 44 (.agg #[.bool s, .bool z, .bool y, .bool h, .bool x, .bool p, .bool n, .bool c]) (.int .i64 2)).run Try.prog w = .ok (.bool y) w)
  | 3, _ => exact (by kernel_rfl : (Instr.index 44 (.agg #[.bool s, .bool z, .bool y, .bool h, .bool x, .bool p, .bool n, .bool c]) (.int .i64 3)).run Try.prog w = .ok (.bool h) w)
  | 4, _ => exact (by kernel_rfl : (Instr.index 44 (.agg #[.bool s, .bool z, .bool y, .bool h, .bool x, .bool p, .bool n, .bool c]) (.int .i64 4)).run Try.prog w = .ok (.bool x) w)
  | 5, _ => exact (by kernel_rfl : (Instr.index 44 (.agg #[.bool s, .bool z, .bool y, .bool h, .bool x, .bool p, .bool n, .bool c]) (.int .i64 5)).run Try.prog w = .ok (.bool p) w)
  | 6, _ => exact (by kernel_rfl : (Instr.index 44 (.agg #[.bool s, .bool z, .bool y, .bool h, .bool x, .bool p, .bool n, .bool c]) (.int .i64 6)).run Try.prog w = .ok (.bool n) w)
  | 7, _ => exact (by kernel_rfl : (Instr.index 44 (.agg #[.bool s, .bool z, .bool y, .bool h, .bool x, .bool p, .bool n, .bool c]) (.int .i64 7)).run Try.prog w = .ok (.bool c) w)

set_option maxHeartbeats 1600000 in
theorem byte_at (s z y h x p n c : Bool) (f : Nat) (hf : Hid (nByte s z y h x p n c = f)) (w : World) :
    Calls Try.prog 22 #[.agg #[.bool s, .bool z, .bool y, .bool h, .bool x, .bool p, .bool n, .bool c]] w fun e w' => e = .returned (.int .u8 (f : Int)) ∧ Below w.heap.size w w' := by
  have HF := Lib.hid (preB_all s z y h x p n c)
  rw [hf.out] at HF
  clear hf
  have HM := Lib.hid (Own.start w)
  have tg1 : Hid True := trivial
  go_enter Try.func22, Try.ntmps22
  go_wp2_with (first
    | ((with_reducible apply own_box HM); exact rfl; (conv => lhs; whnf); exact rfl; exact rfl; (first | (clear tg1; intro w' g1 HM') | (clear tg2; intro w' g2 HM') | (clear tg3; intro w' g3 HM') | (clear tg4; intro w' g4 HM') | intro w' g' HM'); clear HM; have HM := HM'; clear HM'; all_goals skip) | ((with_reducible apply own_alloc HM); exact rfl; (first | (with_reducible exact zeroF)); exact rfl; (first | (clear tg1; intro w' g1 HM') | (clear tg2; intro w' g2 HM') | (clear tg3; intro w' g3 HM') | (clear tg4; intro w' g4 HM') | intro w' g' HM'); clear HM; have HM := HM'; clear HM'; all_goals skip) | ((with_reducible apply own_cell HM); exact rfl; exact rfl; (first | (with_reducible exact oneBool)); (first | with_reducible exact .z | with_reducible exact .s .z | with_reducible exact .s (.s .z) | with_reducible exact .s (.s (.s .z)) | with_reducible exact .s (.s (.s (.s .z))) | with_reducible exact .s (.s (.s (.s (.s .z))))); (focus repeat' (first | with_reducible exact .z | with_reducible apply Drop.s)); exact rfl; all_goals skip) | ((with_reducible apply own_load HM); exact rfl; exact rfl; (first | (with_reducible exact aggF)); (first | with_reducible exact .z | with_reducible exact .s .z | with_reducible exact .s (.s .z) | with_reducible exact .s (.s (.s .z)) | with_reducible exact .s (.s (.s (.s .z))) | with_reducible exact .s (.s (.s (.s (.s .z))))); (focus repeat' (first | with_reducible exact .z | with_reducible apply Drop.s)); (focus repeat' (first | with_reducible exact .z | with_reducible apply Take.s)); exact rfl; all_goals skip) | ((with_reducible apply own_store HM); exact rfl; exact rfl; (conv => lhs; whnf); exact rfl; (first | with_reducible exact .z | with_reducible exact .s .z | with_reducible exact .s (.s .z) | with_reducible exact .s (.s (.s .z)) | with_reducible exact .s (.s (.s (.s .z))) | with_reducible exact .s (.s (.s (.s (.s .z))))); (focus repeat' (first | with_reducible exact .z | with_reducible apply Over.p | with_reducible apply Over.s)); (first | with_reducible exact .z | with_reducible exact .s .z | with_reducible exact .s (.s .z) | with_reducible exact .s (.s (.s .z)) | with_reducible exact .s (.s (.s (.s .z))) | with_reducible exact .s (.s (.s (.s (.s .z))))); (first | (with_reducible exact (aggF).size) | (with_reducible exact (oneBool).size)); exact rfl; exact rfl; exact rfl; exact rfl; intro w' HM'; clear HM; have HM := HM'; clear HM'; all_goals skip))
  go_loopw [3, 23] (fun o i wr => ∃ k m : Nat, k ≤ 8 ∧ i = .int .i64 k ∧ o = .int .u8 m ∧ Hid (preB (rowB s z y h x p n c) k = m) ∧ Hid (Below w.heap.size w wr)) (fun _ i _ => 8 - (intOf i).toNat)
  case atStart => exact ⟨0, 0, by omega, rfl, rfl, rfl, HM.out.below⟩
  case round =>
    clear HM
    obtain ⟨k, m, hk, rfl, rfl, HR, HB⟩ := hrel
    by_cases hlt : (k : Int) < 8
    · have hI := Lib.hid (idx8 s z y h x p n c k (by omega))
      have HB2 : Hid (2 * m + cond (rowB s z y h x p n c k) 1 0 = preB (rowB s z y h x p n c) (k + 1)) := by show _ = _; rw [preB, HR.out]
      have hm : (m : Int) < 128 := by
        have h1 := preB_lt (rowB s z y h x p n c) k
        rw [HR.out] at h1
        have h2 : 2 ^ k ≤ 2 ^ 7 := Nat.pow_le_pow_right (by omega) (by omega)
        omega
      obtain ⟨b, hb⟩ : ∃ b, rowB s z y h x p n c k = b := ⟨_, rfl⟩
      rw [hb] at hI HB2
      clear hb HR
      cases b
      all_goals
        go_wp2_with ((with_reducible apply own_index); exact rfl; exact rfl; exact rfl; exact hI.out; exact rfl; all_goals skip)
        go_roundw
        case' rel => refine ⟨k + 1, _, by omega, by go_num, ?_, HB2.out.symm, HB⟩
        case' measure => simp [intOf]; omega
        rw [Int.natCast_add, Int.natCast_mul]; simp
    · obtain rfl : k = 8 := by omega
      have e : m = f := by rw [← HR.out, HF.out]
      subst e
      go_wp2
      go_ret
      exact ⟨rfl, HB.out⟩

end Go.Proofs.Ythfkeiidkmkkoaa
