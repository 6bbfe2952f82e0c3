/-
  strings.Cut, strconv.Itoa of an int, two digits, signs, spell, behind, find of package names.
-/
import Derived.Test.YtaiceidmcelapaaDoorNamBytes
import Derived.Test.YtaiceidmcelapaaDoorNamSpec2
import Derived.Test.YtaiceidmcelapaaDoorMade
import Derived.Test.YtaiceidmcelapaaDoorQuietTail
import Derived.Lib.ItoaLen
set_option linter.unusedSimpArgs false
set_option linter.unusedVariables false
namespace Go.Proofs.YtaiceidmcelapaaDoor
open Go.RowKit

theorem cut_at (s m : Tx) (hs : s.length < 1000) (w : World) (hT : Tabs w) : Calls Tryd.prog 15 #[.string ⟨s.toArray⟩, .string ⟨m.toArray⟩] w fun e w' => e = .returned (.tuple #[.string ⟨(Lib.cut s m).1.toArray⟩, .string ⟨(Lib.cut s m).2.1.toArray⟩, .bool (Lib.cut s m).2.2]) ∧ Below w.heap.size w w' := by
  obtain ⟨k, hk⟩ := hT.max
  refine (Tryd.strings_Cut ⟨s.toArray⟩ ⟨m.toArray⟩ k w (by show s.length < _; omega) hk).mono ?_
  rintro e w' ⟨rfl, n, rfl⟩
  exact ⟨rfl, by have h := Lib.below_grow w.heap.size w (Nat.le_refl _) n #[]; rwa [Sort.grow_empty] at h⟩
theorem itoa_int (n : Int) (h0 : -1000 ≤ n) (h1 : n ≤ 1000) (w : World) (hT : Tabs w) : Calls Tryd.prog 40 #[.int .i64 n] w fun e w' => e = .returned (.string ⟨(Lib.itoa n).toArray⟩) ∧ Below w.heap.size w w' := by
  refine (Any.strconv_Itoa Tryd.laysM171 n (by omega) (by omega) w hT.pow).mono ?_
  rintro e w' ⟨rfl, k, os, rfl⟩
  exact ⟨rfl, Lib.below_grow _ _ (Nat.le_refl _) _ _⟩
theorem itoa_up (a : Nat) (h : a < 128) : Lib.itoa (a : Int) = dec3 a := by rw [Lib.itoa_nonneg, dec3_eq a (by omega)]
theorem itoa_down (a : Nat) (h1 : 128 ≤ a) (h : a < 256) : Lib.itoa ((a : Int) - 256) = 45 :: dec3 (256 - a) := by
  rw [show (a : Int) - 256 = -((256 - a : Nat) : Int) by omega, Lib.itoa_neg _ (by omega), dec3_eq _ (by omega)]
theorem hexIdx (k : Nat) (hk : k < 16) (w : World) : (Instr.index 9 (.string ⟨#[48, 49, 50, 51, 52, 53, 54, 55, 56, 57, 65, 66, 67, 68, 69, 70]⟩) (.int .u8 (k : Int))).run Tryd.prog w = .ok (.int .u8 ((hexd k).toNat : Int)) w := by
  obtain rfl | rfl | rfl | rfl | rfl | rfl | rfl | rfl | rfl | rfl | rfl | rfl | rfl | rfl | rfl | rfl : k = 0 ∨ k = 1 ∨ k = 2 ∨ k = 3 ∨ k = 4 ∨ k = 5 ∨ k = 6 ∨ k = 7 ∨ k = 8 ∨ k = 9 ∨ k = 10 ∨ k = 11 ∨ k = 12 ∨ k = 13 ∨ k = 14 ∨ k = 15 := by omega
  all_goals kernel_rfl
theorem made2 (a b : Int) (w : World) : (Instr.buildSlice 24 2 #[(0, .int .u8 a), (1, .int .u8 b)]).run Tryd.prog w = .ok (.slice (some ⟨w.heap.size, 0, none⟩) 2 2) (w.alloc (.cells #[.int .u8 a, .int .u8 b] 5)) := by kernel_rfl
theorem u8_nibble (v : Nat) (hv : v < 256) : bits .and .u8 (v : Int) 15 = ((v % 16 : Nat) : Int) := by
  rw [u8_and v 15 (by omega) (by omega) (by omega) (by omega)]
  have e : (Int.toNat (v : Int)) &&& (Int.toNat 15) = v % 16 := by rw [Int.toNat_natCast]; exact Nat.and_two_pow_sub_one_eq_mod v 4
  exact congrArg Nat.cast e
theorem own_convert2 {W0 w : World} {l : List (Nat × TypeId × List Value)} {ops : Array Oper} {rest : List Oper} {o : Oper} {a : Act} {Q : Exit → Act → World → Prop} {x : Operand} {g : Nat} {p q : UInt8} (HM : Hid (Own W0 w ((g, 5, [.int .u8 (p.toNat : Int), .int .u8 (q.toNat : Int)]) :: l)))
    (ho : o.op = .convert 24 9 x) (hx : a.eval x = .slice (some ⟨g, 0, none⟩) 2 2) (hw : Region.wanted o (yielded ops a.tmps) = true) (h : wpList Tryd.prog ops Q rest (a.put o.dst (.string ⟨[p, q].toArray⟩)) w) : wpList Tryd.prog ops Q (o :: rest) a w := by
  refine wpList_wanted hw fun K hK => ?_
  have hg := HM.out.at_ .z
  have hrun := run_convert_bytes_arg (P := Tryd.prog) w 24 5 Tryd.underlying24 Tryd.underlying5 g 0 2 2 [(p.toNat : Int), (q.toNat : Int)] rfl (fun i hi => by
    rw [Nat.zero_add, hg.at_ i]
    obtain rfl | rfl : i = 0 ∨ i = 1 := by omega
    · rfl
    · rfl) 9 Tryd.underlying9
  have e : strOfNums [(p.toNat : Int), (q.toNat : Int)] = ⟨[p, q].toArray⟩ := by simp [strOfNums]
  rw [e] at hrun
  unfold Oper.wp execOp
  simp only [ho, hx, Sem.run_bind, hrun, Sem.run_pure, Result.andThen_ok]
  exact hK _ _ h
set_option maxRecDepth 100000 in
set_option maxHeartbeats 1600000 in
theorem twoDigits_at (v : Nat) (hv : v < 256) (w : World) : Calls Tryd.prog 34 #[.int .u8 (v : Int)] w fun e w' => e = .returned (.string ⟨(hex2 v).toArray⟩) ∧ Below w.heap.size w w' := by
  obtain ⟨a, ha⟩ : ∃ a, a = v / 16 := ⟨_, rfl⟩
  obtain ⟨b, hb⟩ : ∃ b, b = v % 16 := ⟨_, rfl⟩
  have a15 : bits .and .u8 (v : Int) 15 = (b : Int) := by rw [u8_nibble v hv, hb]
  have d1 : (v : Int) / 16 = (a : Int) := by omega
  have HI1 := Lib.hid (hexIdx a (by omega))
  have HI2 := Lib.hid (hexIdx b (by omega))
  have HA : Hid (hex2 v = [hexd a, hexd b]) := by show _ = _; rw [hex2, ← ha, ← hb]
  rw [HA.out]
  have v8 : (v : Int) < 256 := by omega
  have a8 : (a : Int) < 16 := by omega
  have b8 : (b : Int) < 16 := by omega
  clear ha hb hv HA
  have HM := Lib.hid (Own.start w)
  have tg1 : Hid True := trivial
  go_enter Tryd.func34, Tryd.ntmps34
  go_wp2_with fail
  (refine own_tail 6 HM (by kernel_rfl) (by kernel_rfl) (by kernel_rfl) ?_; simp only [List.take_succ_cons, List.take_zero, List.drop_succ_cons, List.drop_zero]; (try simp only [Act.put, List.setIfInBounds_toArray, List.set_cons_zero, List.set_cons_succ]); repeat ((fail_if_success (with_reducible refine wpQuiet_nil ?_)); first | go_big_quiet_skip | (go_big_quiet_want; first | ((with_reducible apply quiet_index); exact rfl; exact rfl; (exact HI1.out); go_big_quiet_op; go_big_quiet_on) | ((with_reducible apply quiet_index); exact rfl; exact rfl; (exact HI2.out); go_big_quiet_op; go_big_quiet_on) | (go_big_quiet_op; go_big_quiet_on) | (go_big_quiet_op; refine ⟨_, fun _ _ => rfl, ?_⟩; go_big_quiet_on))))
  refine wpQuiet_nil ?_
  intro w' HM'
  clear HM; have HM := HM'; clear HM'
  go_wp2_with (first
    | ((with_reducible apply own_made (cs := [.int .u8 ((hexd a).toNat : Int), .int .u8 ((hexd b).toNat : Int)]) (e := 5) (n := 2) HM); exact rfl; exact made2 _ _; (focus (go_simp; done)); exact rfl; clear tg1; intro w' g1 HM'; clear HM; have HM := HM'; clear HM'; all_goals skip)
    | ((with_reducible apply own_convert2 HM); exact rfl; exact rfl; exact rfl; all_goals skip))
  go_ret
  exact ⟨rfl, Own.fin HM⟩
end Go.Proofs.YtaiceidmcelapaaDoor
