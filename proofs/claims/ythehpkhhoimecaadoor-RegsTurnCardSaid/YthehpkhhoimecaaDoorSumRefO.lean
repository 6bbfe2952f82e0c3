/-
  The document's flags, by one contract (Of).
-/
import Derived.Test.YthehpkhhoimecaaDoorSumSpec
import Derived.Test.YthehpkhhoimecaaDoorQuiet
import Derived.Test.YthehpkhhoimecaaDoorIndex
import Derived.Test.YthehpkhhoimecaaDoorOnes
namespace Go.Proofs.YthehpkhhoimecaaDoor
open Go.RowKit

theorem aggF : Agg Tryd.prog 45 8 := ⟨⟨_, Tryd.underlying45, rfl⟩, by kernel_rfl⟩
theorem zeroF : Zero Tryd.prog 45 [.bool false, .bool false, .bool false, .bool false, .bool false, .bool false, .bool false, .bool false] :=
  ⟨.agg #[.bool false, .bool false, .bool false, .bool false, .bool false, .bool false, .bool false, .bool false], fun _ => by kernel_rfl, rfl⟩

/-- eight flags as a value -/
def flagsV (s z y h x p n c : Bool) : Value := .agg #[.bool s, .bool z, .bool y, .bool h, .bool x, .bool p, .bool n, .bool c]

theorem ret_truth' {a b : Bool} (h : a = b) : (Ending.returned (.bool a) : Ending) = .returned (.bool b) := by rw [h]
theorem bit_of (v k : Nat) (q : Int) (hq : q = ((v / k % 2 : Nat) : Int)) : (q == 1) = nBit k v := by
  rw [Bool.eq_iff_iff, beq_iff_eq]
  unfold nBit
  rw [Nat.beq_eq]
  show _ ↔ v / k % 2 = 1
  omega
theorem ge_of (v k : Nat) : decide ((k : Int) ≤ (v : Int)) = Nat.ble k v := by
  rw [Bool.eq_iff_iff, decide_eq_true_eq, Nat.ble_eq]; omega
theorem eq_of (v k : Nat) : ((v : Int) == (k : Int)) = Nat.beq v k := by
  rw [Bool.eq_iff_iff, beq_iff_eq, Nat.beq_eq]; omega

theorem flags_eq {a b c d e f g h a' b' c' d' e' f' g' h' : Bool} (e1 : a = a') (e2 : b = b') (e3 : c = c') (e4 : d = d') (e5 : e = e') (e6 : f = f') (e7 : g = g') (e8 : h = h') :
    (Ending.returned (.agg #[.bool a, .bool b, .bool c, .bool d, .bool e, .bool f, .bool g, .bool h]) : Ending) = .returned (flagsV a' b' c' d' e' f' g' h') := by subst e1 e2 e3 e4 e5 e6 e7 e8; rfl
set_option maxHeartbeats 800000 in
theorem of_at (f : Nat) (h : f < 256) (w : World) : Calls Tryd.prog 17 #[.int .u8 (f : Int)] w fun e w' =>
    e = .returned (flagsV (nBit 128 f) (nBit 64 f) (nBit 32 f) (nBit 16 f) (nBit 8 f) (nBit 4 f) (nBit 2 f) (nBit 1 f)) ∧ Below w.heap.size w w' := by
  have HM := Lib.hid (Own.start w)
  have tg1 : Hid True := trivial
  go_enter Tryd.func17, Tryd.ntmps17
  go_wp2_with (first
    | ((with_reducible apply own_box HM); exact rfl; (conv => lhs; whnf); exact rfl; exact rfl; (first | (clear tg1; intro w' g1 HM') | (clear tg2; intro w' g2 HM') | (clear tg3; intro w' g3 HM') | (clear tg4; intro w' g4 HM') | intro w' g' HM'); clear HM; have HM := HM'; clear HM'; all_goals skip) | ((with_reducible apply own_alloc HM); exact rfl; (first | (with_reducible exact zeroF)); exact rfl; (first | (clear tg1; intro w' g1 HM') | (clear tg2; intro w' g2 HM') | (clear tg3; intro w' g3 HM') | (clear tg4; intro w' g4 HM') | intro w' g' HM'); clear HM; have HM := HM'; clear HM'; all_goals skip) | ((with_reducible apply own_cell HM); exact rfl; exact rfl; (first | (with_reducible exact oneBool)); (first | with_reducible exact .z | with_reducible exact .s .z | with_reducible exact .s (.s .z) | with_reducible exact .s (.s (.s .z)) | with_reducible exact .s (.s (.s (.s .z))) | with_reducible exact .s (.s (.s (.s (.s .z))))); (focus repeat' (first | with_reducible exact .z | with_reducible apply Drop.s)); exact rfl; all_goals skip) | ((with_reducible apply own_load HM); exact rfl; exact rfl; (first | (with_reducible exact aggF)); (first | with_reducible exact .z | with_reducible exact .s .z | with_reducible exact .s (.s .z) | with_reducible exact .s (.s (.s .z)) | with_reducible exact .s (.s (.s (.s .z))) | with_reducible exact .s (.s (.s (.s (.s .z))))); (focus repeat' (first | with_reducible exact .z | with_reducible apply Drop.s)); (focus repeat' (first | with_reducible exact .z | with_reducible apply Take.s)); exact rfl; all_goals skip) | ((with_reducible apply own_store HM); exact rfl; exact rfl; (conv => lhs; whnf); exact rfl; (first | with_reducible exact .z | with_reducible exact .s .z | with_reducible exact .s (.s .z) | with_reducible exact .s (.s (.s .z)) | with_reducible exact .s (.s (.s (.s .z))) | with_reducible exact .s (.s (.s (.s (.s .z))))); (focus repeat' (first | with_reducible exact .z | with_reducible apply Over.p | with_reducible apply Over.s)); (first | with_reducible exact .z | with_reducible exact .s .z | with_reducible exact .s (.s .z) | with_reducible exact .s (.s (.s .z)) | with_reducible exact .s (.s (.s (.s .z))) | with_reducible exact .s (.s (.s (.s (.s .z))))); (first | (with_reducible exact (aggF).size) | (with_reducible exact (oneBool).size)); exact rfl; exact rfl; exact rfl; exact rfl; intro w' HM'; clear HM; have HM := HM'; clear HM'; all_goals skip))
  refine bodyPost_ret (v := .agg #[.bool _, .bool _, .bool _, .bool _, .bool _, .bool _, .bool _, .bool _]) (own_results HM Tryd.results17 _ rfl (by first | exact .z | exact .s .z) aggF) rfl ⟨?_, Own.fin HM⟩
  exact flags_eq (bit_of f 128 _ (by omega)) (bit_of f 64 _ (by omega)) (bit_of f 32 _ (by omega)) (bit_of f 16 _ (by omega)) (bit_of f 8 _ (by omega)) (bit_of f 4 _ (by omega)) (bit_of f 2 _ (by omega)) (bit_of f 1 _ (by omega))

end Go.Proofs.YthehpkhhoimecaaDoor
