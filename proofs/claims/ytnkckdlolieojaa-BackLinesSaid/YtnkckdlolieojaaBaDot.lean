/-
  The document's Dot of the ground, from what its Source, its Entry and its tile's Dot answer.
-/
import Derived.Test.YtnkckdlolieojaaBaRef
namespace Go.Proofs.Ytnkckdlolieojaa
open Go.RowKit

set_option maxHeartbeats 3200000 in
theorem rback_at (a : Option Addr) (n cap : Nat) (r0 r1 r2 r3 r4 r5 r6 r7 r8 r9 r10 : Nat) (line x : Int) (c q B e h d rr cc v : Nat) (t : Bool) (h2 : r2 < 256) (l0 : 0 ≤ line) (l1 : line ≤ 191) (c1 : c < 256) (q1 : q < 224)
    (hB : Hid (1024 * (r2 / 2 % 8 * 2) = B)) (h16 : h < 16) (d16 : d < 16) (hrr : Hid (rr = if h / 2 % 2 = 1 then 7 - q % 8 else q % 8)) (hcc : Hid (cc = if h % 2 = 1 then 7 - c % 8 else c % 8)) (hv : Hid (v = d + 16 * (h / 4 % 2))) (ht : Hid (t = (decide (h / 8 = 1) && decide (0 < d)))) (w : World)
    (hS : Hid (∀ w', Below w.heap.size w w' → Calls Try.prog 13 #[regsV r0 r1 r2 r3 r4 r5 r6 r7 r8 r9 r10, .int .i64 line, .int .i64 x] w' fun e w'' => e = .returned (.tuple #[.int .i64 (c : Int), .int .i64 (q : Int)]) ∧ Below w'.heap.size w' w''))
    (hE : Hid (∀ w', Below w.heap.size w w' → Calls Try.prog 18 #[.slice a n cap, .int .i64 (B : Int), .int .i64 ((q / 8 : Nat) : Int), .int .i64 ((c / 8 : Nat) : Int)] w' fun e_ w'' => e_ = .returned (.tuple #[.int .i64 (e : Int), .int .u8 (h : Int)]) ∧ w' = w''))
    (hD : Hid (∀ w', Below w.heap.size w w' → Calls Try.prog 19 #[.slice a n cap, .int .i64 (e : Int), .int .i64 (rr : Int), .int .i64 (cc : Int)] w' fun e w'' => e = .returned (.int .u8 (d : Int)) ∧ w' = w'')) :
    Calls Try.prog 12 #[.slice a n cap, regsV r0 r1 r2 r3 r4 r5 r6 r7 r8 r9 r10, .int .i64 line, .int .i64 x] w fun e w' => e = .returned (.tuple #[.int .u8 (v : Int), .bool t]) ∧ Below w.heap.size w w' := by
  obtain ⟨p, hp⟩ : ∃ p : Nat, r2 / 2 = p := ⟨_, rfl⟩
  obtain ⟨s, hs⟩ : ∃ s : Nat, p % 8 = s := ⟨_, rfl⟩
  have P1 : IntKind.u8.wrap ((r2 : Int) / 2) = (p : Int) := by rw [IntKind.wrap_u8]; omega
  have P2 : IntKind.u8.wrap ((p : Int) % 8) = (s : Int) := by rw [IntKind.wrap_u8]; omega
  have P3 : (p : Int) % 8 = (s : Int) := by omega
  have P4 : (r2 : Int) / 2 = (p : Int) := by omega
  have s8 : (s : Int) < 8 := by omega
  have B1 : 1024 * ((s : Int) * 2) = (B : Int) := by have := hB.out; rw [hp, hs] at this; omega
  obtain ⟨q8, hq8⟩ : ∃ m : Nat, q / 8 = m := ⟨_, rfl⟩
  obtain ⟨c8, hc8⟩ : ∃ m : Nat, c / 8 = m := ⟨_, rfl⟩
  obtain ⟨qr, hqr⟩ : ∃ m : Nat, q % 8 = m := ⟨_, rfl⟩
  obtain ⟨cr, hcr⟩ : ∃ m : Nat, c % 8 = m := ⟨_, rfl⟩
  have Q1 : (q : Int).tdiv 8 = (q8 : Int) := by rw [Int.tdiv_eq_ediv_of_nonneg (by omega)]; omega
  have Q2 : (q : Int).tmod 8 = (qr : Int) := by rw [Int.tmod_eq_emod_of_nonneg (by omega)]; omega
  have Q3 : (c : Int).tdiv 8 = (c8 : Int) := by rw [Int.tdiv_eq_ediv_of_nonneg (by omega)]; omega
  have Q4 : (c : Int).tmod 8 = (cr : Int) := by rw [Int.tmod_eq_emod_of_nonneg (by omega)]; omega
  have qr8 : (qr : Int) < 8 := by omega
  have cr8 : (cr : Int) < 8 := by omega
  have q28 : (q8 : Int) < 28 := by omega
  have c32 : (c8 : Int) < 32 := by omega
  have d16' : (d : Int) < 16 := by omega
  rw [hq8, hc8] at hE
  rw [hqr] at hrr
  rw [hcr] at hcc
  clear hp hs hB hq8 hc8 hqr hcr
  have HM := Lib.hid (Own.start w)
  have tg1 : Hid True := trivial
  obtain rfl | rfl | rfl | rfl | rfl | rfl | rfl | rfl | rfl | rfl | rfl | rfl | rfl | rfl | rfl | rfl : h = 0 ∨ h = 1 ∨ h = 2 ∨ h = 3 ∨ h = 4 ∨ h = 5 ∨ h = 6 ∨ h = 7 ∨ h = 8 ∨ h = 9 ∨ h = 10 ∨ h = 11 ∨ h = 12 ∨ h = 13 ∨ h = 14 ∨ h = 15 := by omega
  all_goals
    have e1 := hrr.out
    have e2 := hcc.out
    have e3 := hv.out
    have e4 := ht.out
    simp only [Nat.reduceDiv, Nat.reduceMod, if_true, if_false, Nat.reduceMul, Nat.add_zero, Nat.mul_zero, decide_true, decide_false, Bool.true_and, Bool.false_and, reduceCtorEq] at e1 e2 e3 e4
    clear hrr hcc hv ht
    first | (have E1 : 7 - (qr : Int) = (rr : Int) := by omega) | (obtain rfl : rr = qr := e1)
    first | (have E2 : 7 - (cr : Int) = (cc : Int) := by omega) | (obtain rfl : cc = cr := e2)
    first | (obtain rfl : t = false := e4) | (by_cases k : d = 0)
    all_goals try (simp only [k, Nat.lt_irrefl, decide_false] at e4; subst e4; have K : ¬ 0 < (d : Int) := by omega
                   clear k)
    all_goals try (have k' : 0 < d := by omega
                   simp only [k', decide_true] at e4; subst e4; have K : 0 < (d : Int) := by omega
                   clear k k')
    all_goals first | (have E3 : (d : Int) + 16 = (v : Int) := by omega) | (obtain rfl : v = d := e3)
    all_goals try clear e1
    all_goals try clear e2
    all_goals try clear e3
    all_goals clear d16
    all_goals
      go_enter Try.func12, Try.ntmps12
      go_wp2_with (first | ((with_reducible apply own_box HM); exact rfl; (conv => lhs; whnf); exact rfl; exact rfl; (first | (clear tg1; intro w' g1 HM') | (clear tg2; intro w' g2 HM') | (clear tg3; intro w' g3 HM') | (clear tg4; intro w' g4 HM') | intro w' g' HM'); clear HM; have HM := HM'; clear HM'; all_goals skip) | ((with_reducible apply own_cell HM); exact rfl; exact rfl; (first | (with_reducible exact one8)); (first | with_reducible exact .z | with_reducible exact .s .z | with_reducible exact .s (.s .z) | with_reducible exact .s (.s (.s .z)) | with_reducible exact .s (.s (.s (.s .z))) | with_reducible exact .s (.s (.s (.s (.s .z))))); (focus repeat' (first | with_reducible exact .z | with_reducible apply Drop.s)); exact rfl; all_goals skip) | ((with_reducible apply own_load HM); exact rfl; exact rfl; (first | (with_reducible exact agg11)); (first | with_reducible exact .z | with_reducible exact .s .z | with_reducible exact .s (.s .z) | with_reducible exact .s (.s (.s .z)) | with_reducible exact .s (.s (.s (.s .z))) | with_reducible exact .s (.s (.s (.s (.s .z))))); (focus repeat' (first | with_reducible exact .z | with_reducible apply Drop.s)); (focus repeat' (first | with_reducible exact .z | with_reducible apply Take.s)); exact rfl; all_goals skip) | ((with_reducible apply own_store HM); exact rfl; exact rfl; (conv => lhs; whnf); exact rfl; (first | with_reducible exact .z | with_reducible exact .s .z | with_reducible exact .s (.s .z) | with_reducible exact .s (.s (.s .z)) | with_reducible exact .s (.s (.s (.s .z))) | with_reducible exact .s (.s (.s (.s (.s .z))))); (focus repeat' (first | with_reducible exact .z | with_reducible apply Over.p | with_reducible apply Over.s)); (first | with_reducible exact .z | with_reducible exact .s .z | with_reducible exact .s (.s .z) | with_reducible exact .s (.s (.s .z)) | with_reducible exact .s (.s (.s (.s .z))) | with_reducible exact .s (.s (.s (.s (.s .z))))); (first | (with_reducible exact (agg11).size) | (with_reducible exact (one8).size)); exact rfl; exact rfl; exact rfl; exact rfl; intro w' HM'; clear HM; have HM := HM'; clear HM'; all_goals skip) | (go_at_call 13; (with_reducible refine (hS.out _ (Own.fin HM)).mono ?_); rintro e w' ⟨rfl, hb⟩; have HM' := Lib.hid (HM.out.call hb); clear HM hb; have HM := HM'; clear HM') | (go_at_call 18; (with_reducible refine (hE.out _ (Own.fin HM)).mono ?_); rintro e w' ⟨rfl, rfl⟩) | (go_at_call 19; (with_reducible refine (hD.out _ (Own.fin HM)).mono ?_); rintro e w' ⟨rfl, rfl⟩))
      all_goals (go_ret2; first | exact ⟨rfl, Own.fin HM⟩ | exact ⟨congrArg (fun z : Bool => Ending.returned (Value.tuple #[Value.int IntKind.u8 _, Value.bool z])) (decide_eq_true (p := 0 < v) (by omega)), Own.fin HM⟩ | exact ⟨congrArg (fun z : Bool => Ending.returned (Value.tuple #[Value.int IntKind.u8 _, Value.bool z])) (decide_eq_true (p := 0 < d) (by omega)), Own.fin HM⟩ | exact ⟨congrArg (fun z : Bool => Ending.returned (Value.tuple #[Value.int IntKind.u8 _, Value.bool z])) (decide_eq_false (p := 0 < v) (by omega)), Own.fin HM⟩ | exact ⟨congrArg (fun z : Bool => Ending.returned (Value.tuple #[Value.int IntKind.u8 _, Value.bool z])) (decide_eq_false (p := 0 < d) (by omega)), Own.fin HM⟩)
end Go.Proofs.Ytnkckdlolieojaa
