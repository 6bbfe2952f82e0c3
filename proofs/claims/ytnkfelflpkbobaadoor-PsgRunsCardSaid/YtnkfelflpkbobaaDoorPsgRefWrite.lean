/-
  The document's Write, by one contract.
-/
import Derived.Test.YtnkfelflpkbobaaDoorPsgWrite
namespace Go.Proofs.YtnkfelflpkbobaaDoor
open Go.RowKit

set_option maxRecDepth 100000 in
set_option maxHeartbeats 3200000 in
theorem rwrite_at (S : Snd) (hS : S.Good) (v : Int) (v0 : 0 ≤ v) (v1 : v < 256) (w : World) :
    Calls Tryd.prog 16 #[S.v, .int .u8 v] w fun e w' => e = .returned (S.write v).v ∧ Below w.heap.size w w' := by
  have HM := Lib.hid (Own.start w)
  have HG := Lib.hid hS
  have b0 : IntKind.u8.wrap (v.tdiv 16) = v / 16 := by rw [Int.tdiv_eq_ediv_of_nonneg v0, IntKind.wrap_u8']; omega
  have b1 : v.tmod 16 = v % 16 := Int.tmod_eq_emod_of_nonneg v0
  have b2 : (v / 16).tmod 8 = v / 16 % 8 := Int.tmod_eq_emod_of_nonneg (by omega)
  have b3 : v.tmod 8 = v % 8 := Int.tmod_eq_emod_of_nonneg v0
  have b4 : v.tmod 64 = v % 64 := Int.tmod_eq_emod_of_nonneg v0
  obtain ⟨⟨p0, c0, o0⟩, ⟨p1, c1, o1⟩, ⟨p2, c2, o2⟩, ⟨m, k, h, x⟩, q0, q1, q2, q3, l⟩ := S
  obtain ⟨L, hL⟩ : ∃ L, L = wL v l := ⟨_, rfl⟩
  have l0 : 0 ≤ l := hS.l0
  have l1 : l < 8 := hS.l1
  clear hS
  have hb := wL_bd v l v0 l0 l1
  have hsplit : (128 ≤ v ∧ L = v / 16 % 8) ∨ (v < 128 ∧ L = l) := by rw [hL]; unfold wL; split <;> omega
  rw [← hL] at hb
  have HL : Hid (wL v l = L) := hL.symm
  clear hL
  have tg1 : Hid True := trivial
  have tg2 : Hid True := trivial
  have key : ∀ (P0 P1 P2 M X Q0 Q1 Q2 Q3 : Int), Hid (P0 = wP 0 L v p0 ∧ P1 = wP 1 L v p1 ∧ P2 = wP 2 L v p2 ∧ M = (if L = 6 then v % 8 else m) ∧ X = (if L = 6 then 32768 else x) ∧ Q0 = wQ 0 L v q0 ∧ Q1 = wQ 1 L v q1 ∧ Q2 = wQ 2 L v q2 ∧ Q3 = wQ 3 L v q3) →
      Ending.returned (.agg #[.int .i64 P0, .int .i64 c0, .bool o0, .int .i64 P1, .int .i64 c1, .bool o1, .int .i64 P2, .int .i64 c2, .bool o2, .int .u8 M, .int .i64 k, .bool h, .int .u16 X, .int .u8 Q0, .int .u8 Q1, .int .u8 Q2, .int .u8 Q3, .int .u8 L]) = .returned (Snd.write ⟨⟨p0, c0, o0⟩, ⟨p1, c1, o1⟩, ⟨p2, c2, o2⟩, ⟨m, k, h, x⟩, q0, q1, q2, q3, l⟩ v).v := by
    rintro P0 P1 P2 M X Q0 Q1 Q2 Q3 ⟨rfl, rfl, rfl, rfl, rfl, rfl, rfl, rfl, rfl⟩
    unfold Snd.v Snd.cells Snd.write
    simp only [HL.out]
    unfold wN
    by_cases h6 : L = 6
    · simp only [if_pos h6]
    · simp only [if_neg h6]
  have KEY := Lib.hid key
  clear key
  show Calls Tryd.prog 16 #[.agg #[.int .i64 p0, .int .i64 c0, .bool o0, .int .i64 p1, .int .i64 c1, .bool o1, .int .i64 p2, .int .i64 c2, .bool o2, .int .u8 m, .int .i64 k, .bool h, .int .u16 x, .int .u8 q0, .int .u8 q1, .int .u8 q2, .int .u8 q3, .int .u8 l], .int .u8 v] w _
  have hcase : L = 0 ∨ L = 1 ∨ L = 2 ∨ L = 3 ∨ L = 4 ∨ L = 5 ∨ L = 6 ∨ L = 7 := by omega
  have z0 : 0 ≤ p0 ∧ p0 ≤ 1023 := ⟨HG.out.t0.p0, HG.out.t0.p1⟩
  have z1 : 0 ≤ p1 ∧ p1 ≤ 1023 := ⟨HG.out.t1.p0, HG.out.t1.p1⟩
  have z2 : 0 ≤ p2 ∧ p2 ≤ 1023 := ⟨HG.out.t2.p0, HG.out.t2.p1⟩
  have y0 : p0.tdiv 16 = p0 / 16 := Int.tdiv_eq_ediv_of_nonneg z0.1
  have y1 : p1.tdiv 16 = p1 / 16 := Int.tdiv_eq_ediv_of_nonneg z1.1
  have y2 : p2.tdiv 16 = p2 / 16 := Int.tdiv_eq_ediv_of_nonneg z2.1
  have x0 : p0.tmod 16 = p0 % 16 := Int.tmod_eq_emod_of_nonneg z0.1
  have x1 : p1.tmod 16 = p1 % 16 := Int.tmod_eq_emod_of_nonneg z1.1
  have x2 : p2.tmod 16 = p2 % 16 := Int.tmod_eq_emod_of_nonneg z2.1
  rcases hsplit with ⟨hv, hL⟩ | ⟨hv, rfl⟩
  case' inl => rw [← hL] at b2; clear hL
  all_goals
    rcases hcase with rfl | rfl | rfl | rfl | rfl | rfl | rfl | rfl
  all_goals
    have hv' := Lib.hid hv
    go_enter Tryd.func16, Tryd.ntmps16
    go_wp2_with (first
      | ((with_reducible apply own_box HM); exact rfl; (conv => lhs; whnf); exact rfl; exact rfl; (first | (clear tg1; intro w' g1 HM') | (clear tg2; intro w' g2 HM') | (clear tg3; intro w' g3 HM') | (clear tg4; intro w' g4 HM') | intro w' g' HM'); clear HM; have HM := HM'; clear HM'; all_goals skip) | ((with_reducible apply own_alloc HM); exact rfl; (first | (with_reducible exact zeroS)); exact rfl; (first | (clear tg1; intro w' g1 HM') | (clear tg2; intro w' g2 HM') | (clear tg3; intro w' g3 HM') | (clear tg4; intro w' g4 HM') | intro w' g' HM'); clear HM; have HM := HM'; clear HM'; all_goals skip) | ((with_reducible apply own_cell HM); exact rfl; exact rfl; (first | (with_reducible exact oneInt) | (with_reducible exact oneBool) | (with_reducible exact oneU8) | (with_reducible exact oneU16)); (first | with_reducible exact .z | with_reducible exact .s .z | with_reducible exact .s (.s .z) | with_reducible exact .s (.s (.s .z)) | with_reducible exact .s (.s (.s (.s .z))) | with_reducible exact .s (.s (.s (.s (.s .z))))); (focus repeat' (first | with_reducible exact .z | with_reducible apply Drop.s)); exact rfl; all_goals skip) | ((with_reducible apply own_load HM); exact rfl; exact rfl; (first | (with_reducible exact aggS) | (with_reducible exact aggT3) | (with_reducible exact aggT) | (with_reducible exact aggQ) | (with_reducible exact aggN)); (first | with_reducible exact .z | with_reducible exact .s .z | with_reducible exact .s (.s .z) | with_reducible exact .s (.s (.s .z)) | with_reducible exact .s (.s (.s (.s .z))) | with_reducible exact .s (.s (.s (.s (.s .z))))); (focus repeat' (first | with_reducible exact .z | with_reducible apply Drop.s)); (focus repeat' (first | with_reducible exact .z | with_reducible apply Take.s)); exact rfl; all_goals skip) | ((with_reducible apply own_store HM); exact rfl; exact rfl; (conv => lhs; whnf); exact rfl; (first | with_reducible exact .z | with_reducible exact .s .z | with_reducible exact .s (.s .z) | with_reducible exact .s (.s (.s .z)) | with_reducible exact .s (.s (.s (.s .z))) | with_reducible exact .s (.s (.s (.s (.s .z))))); (focus repeat' (first | with_reducible exact .z | with_reducible apply Over.p | with_reducible apply Over.s)); (first | with_reducible exact .z | with_reducible exact .s .z | with_reducible exact .s (.s .z) | with_reducible exact .s (.s (.s .z)) | with_reducible exact .s (.s (.s (.s .z))) | with_reducible exact .s (.s (.s (.s (.s .z))))); (first | (with_reducible exact (aggS).size) | (with_reducible exact (aggT3).size) | (with_reducible exact (aggT).size) | (with_reducible exact (aggQ).size) | (with_reducible exact (aggN).size) | (with_reducible exact (oneInt).size) | (with_reducible exact (oneBool).size) | (with_reducible exact (oneU8).size) | (with_reducible exact (oneU16).size)); exact rfl; exact rfl; exact rfl; exact rfl; intro w' HM'; clear HM; have HM := HM'; clear HM'; all_goals skip))
    refine bodyPost_ret (v := .agg #[.int .i64 _, .int .i64 c0, .bool o0, .int .i64 _, .int .i64 c1, .bool o1, .int .i64 _, .int .i64 c2, .bool o2, .int .u8 _, .int .i64 k, .bool h, .int .u16 _, .int .u8 _, .int .u8 _, .int .u8 _, .int .u8 _, .int .u8 _]) (own_results HM Tryd.results16 _ rfl (by first | exact .z | exact .s .z) aggS) rfl ⟨KEY.out _ _ _ _ _ _ _ _ _ (by refine ⟨?_, ?_, ?_, ?_, ?_, ?_, ?_, ?_, ?_⟩ <;> first | (simp [wP, wQ, pieceOf, hv'.out]; done) | (have hq := hv'.out; simp [wP, pieceOf]; intro hh; omega)), Own.fin HM⟩

end Go.Proofs.YtnkfelflpkbobaaDoor
