/-
  Package psg's Write, its piece, and the document's Write, each by one contract.
-/
import Derived.Test.YtnkfelflpkbobaaDoorPsgIndex
import Derived.Test.YtnkfelflpkbobaaDoorBitsInt
namespace Go.Proofs.YtnkfelflpkbobaaDoor
open Go.RowKit

theorem pc1 (p : Int) (p0 : 0 ≤ p) (p1 : p ≤ 1023) : bits .andNot .i64 p 15 = p / 16 * 16 := i64_floor16 p p0 (by omega)
theorem pc2 (v : Int) (v0 : 0 ≤ v) (v1 : v < 256) : bits .and .i64 v 15 = v % 16 := i64_and _ _ _ (by go_bits2) (by omega) (by omega)
theorem pc3 (p v : Int) (p0 : 0 ≤ p) (p1 : p ≤ 63) (v0 : 0 ≤ v) (v1 : v < 16) : bits .or .i64 (p * 16) v = p * 16 + v := i64_or _ _ _ (by go_bits2) (by omega) (by omega)
theorem pc4 (p : Int) (p0 : 0 ≤ p) (p1 : p ≤ 1023) : bits .and .i64 p 15 = p % 16 := i64_and _ _ _ (by go_bits2) (by omega) (by omega)
theorem pc5 (v : Int) (v0 : 0 ≤ v) (v1 : v < 256) : bits .and .i64 v 63 = v % 64 := i64_and _ _ _ (by go_bits2) (by omega) (by omega)
theorem pc6 (p v : Int) (p0 : 0 ≤ p) (p1 : p < 16) (v0 : 0 ≤ v) (v1 : v < 64) : bits .or .i64 p (v * 16) = p + v * 16 := i64_or _ _ _ (by go_bits2) (by omega) (by omega)

set_option maxHeartbeats 1600000 in
theorem pieced_at (p v : Int) (p0 : 0 ≤ p) (p1 : p ≤ 1023) (v0 : 0 ≤ v) (v1 : v < 256) (w : World) :
    Calls Tryd.prog 28 #[.int .i64 p, .int .u8 v] w fun e w' => e = .returned (.int .i64 (pieceOf v p)) ∧ w = w' := by
  have a1 := pc1 p p0 p1
  have a2 := pc2 v v0 v1
  have a3 := pc3 (p / 16) (v % 16) (by omega) (by omega) (by omega) (by omega)
  have a4 := pc4 p p0 p1
  have a5 := pc5 v v0 v1
  have a6 := pc6 (p % 16) (v % 64) (by omega) (by omega) (by omega) (by omega)
  by_cases h : 128 ≤ v
  · have e : Hid (pieceOf v p = p / 16 * 16 + v % 16) := by show _ = _; unfold pieceOf; rw [if_pos h]
    go_enter Tryd.func28, Tryd.ntmps28
    go_wp2
    go_ret
    exact ⟨by rw [e.out]; rfl, rfl⟩
  · have e : Hid (pieceOf v p = p % 16 + v % 64 * 16) := by show _ = _; unfold pieceOf; rw [if_neg h]
    go_enter Tryd.func28, Tryd.ntmps28
    go_wp2
    go_ret
    exact ⟨by rw [e.out]; rfl, rfl⟩

theorem hi3 (v : Int) (v0 : 0 ≤ v) (v1 : v < 256) : bits .and .u8 (v / 16) 7 = v / 16 % 8 := by go_bits2
theorem lo7 (L : Int) (l0 : 0 ≤ L) (l1 : L < 8) : bits .and .u8 L 7 = L := by
  have : bits .and .u8 L 7 = L % 8 := by go_bits2
  omega
theorem lo1 (L : Int) (l0 : 0 ≤ L) (l1 : L < 8) : bits .and .u8 L 1 = L % 2 := by go_bits2

set_option maxRecDepth 100000 in
set_option maxHeartbeats 3200000 in
theorem write_at (S : Snd) (hS : S.Good) (v : Int) (v0 : 0 ≤ v) (v1 : v < 256) (w : World) :
    Calls Tryd.prog 15 #[S.v, .int .u8 v] w fun e w' => e = .returned (S.write v).v ∧ Below w.heap.size w w' := by
  have HM := Lib.hid (Own.start w)
  have HG := Lib.hid hS
  have b1 := low4 v v0 v1
  have b2 := hi3 v v0 v1
  obtain ⟨⟨p0, c0, o0⟩, ⟨p1, c1, o1⟩, ⟨p2, c2, o2⟩, ⟨m, k, h, x⟩, q0, q1, q2, q3, l⟩ := S
  obtain ⟨L, hL⟩ : ∃ L, L = wL v l := ⟨_, rfl⟩
  have l0 : 0 ≤ l := hS.l0
  have l1 : l < 8 := hS.l1
  clear hS
  have hb := wL_bd v l v0 l0 l1
  have hsplit : (128 ≤ v ∧ L = v / 16 % 8) ∨ (v < 128 ∧ L = l) := by rw [hL]; unfold wL; split <;> omega
  rw [← hL] at hb
  have HL : Hid (wL v l = L) := hL.symm
  clear hL
  have tg1 : Hid True := trivial
  have tg2 : Hid True := trivial
  have key : ∀ (P0 P1 P2 M X Q0 Q1 Q2 Q3 : Int), Hid (P0 = wP 0 L v p0 ∧ P1 = wP 1 L v p1 ∧ P2 = wP 2 L v p2 ∧ M = (if L = 6 then v % 8 else m) ∧ X = (if L = 6 then 32768 else x) ∧ Q0 = wQ 0 L v q0 ∧ Q1 = wQ 1 L v q1 ∧ Q2 = wQ 2 L v q2 ∧ Q3 = wQ 3 L v q3) →
      Ending.returned (.agg #[.int .i64 P0, .int .i64 c0, .bool o0, .int .i64 P1, .int .i64 c1, .bool o1, .int .i64 P2, .int .i64 c2, .bool o2, .int .u8 M, .int .i64 k, .bool h, .int .u16 X, .int .u8 Q0, .int .u8 Q1, .int .u8 Q2, .int .u8 Q3, .int .u8 L]) = .returned (Snd.write ⟨⟨p0, c0, o0⟩, ⟨p1, c1, o1⟩, ⟨p2, c2, o2⟩, ⟨m, k, h, x⟩, q0, q1, q2, q3, l⟩ v).v := by
    rintro P0 P1 P2 M X Q0 Q1 Q2 Q3 ⟨rfl, rfl, rfl, rfl, rfl, rfl, rfl, rfl, rfl⟩
    unfold Snd.v Snd.cells Snd.write
    simp only [HL.out]
    unfold wN
    by_cases h6 : L = 6
    · simp only [if_pos h6]
    · simp only [if_neg h6]
  have KEY := Lib.hid key
  clear key
  show Calls Tryd.prog 15 #[.agg #[.int .i64 p0, .int .i64 c0, .bool o0, .int .i64 p1, .int .i64 c1, .bool o1, .int .i64 p2, .int .i64 c2, .bool o2, .int .u8 m, .int .i64 k, .bool h, .int .u16 x, .int .u8 q0, .int .u8 q1, .int .u8 q2, .int .u8 q3, .int .u8 l], .int .u8 v] w _
  have hcase : L = 0 ∨ L = 1 ∨ L = 2 ∨ L = 3 ∨ L = 4 ∨ L = 5 ∨ L = 6 ∨ L = 7 := by omega
  have e7 := lo7 L hb.1 hb.2
  have e1 := lo1 L hb.1 hb.2
  rcases hsplit with ⟨hv, hL⟩ | ⟨hv, rfl⟩
  case' inl => rw [← hL] at b2; clear hL
  all_goals
    rcases hcase with rfl | rfl | rfl | rfl | rfl | rfl | rfl | rfl
  all_goals
    go_enter Tryd.func15, Tryd.ntmps15
    go_wp2_with (first
      | ((with_reducible apply own_box HM); exact rfl; (conv => lhs; whnf); exact rfl; exact rfl; (first | (clear tg1; intro w' g1 HM') | (clear tg2; intro w' g2 HM') | (clear tg3; intro w' g3 HM') | (clear tg4; intro w' g4 HM') | intro w' g' HM'); clear HM; have HM := HM'; clear HM'; all_goals skip) | ((with_reducible apply own_alloc HM); exact rfl; (first | (with_reducible exact zeroS)); exact rfl; (first | (clear tg1; intro w' g1 HM') | (clear tg2; intro w' g2 HM') | (clear tg3; intro w' g3 HM') | (clear tg4; intro w' g4 HM') | intro w' g' HM'); clear HM; have HM := HM'; clear HM'; all_goals skip) | ((with_reducible apply own_cell HM); exact rfl; exact rfl; (first | (with_reducible exact oneInt) | (with_reducible exact oneBool) | (with_reducible exact oneU8) | (with_reducible exact oneU16)); (first | with_reducible exact .z | with_reducible exact .s .z | with_reducible exact .s (.s .z) | with_reducible exact .s (.s (.s .z)) | with_reducible exact .s (.s (.s (.s .z))) | with_reducible exact .s (.s (.s (.s (.s .z))))); (focus repeat' (first | with_reducible exact .z | with_reducible apply Drop.s)); exact rfl; all_goals skip) | ((with_reducible apply own_load HM); exact rfl; exact rfl; (first | (with_reducible exact aggS) | (with_reducible exact aggT3) | (with_reducible exact aggT) | (with_reducible exact aggQ) | (with_reducible exact aggN)); (first | with_reducible exact .z | with_reducible exact .s .z | with_reducible exact .s (.s .z) | with_reducible exact .s (.s (.s .z)) | with_reducible exact .s (.s (.s (.s .z))) | with_reducible exact .s (.s (.s (.s (.s .z))))); (focus repeat' (first | with_reducible exact .z | with_reducible apply Drop.s)); (focus repeat' (first | with_reducible exact .z | with_reducible apply Take.s)); exact rfl; all_goals skip) | ((with_reducible apply own_store HM); exact rfl; exact rfl; (conv => lhs; whnf); exact rfl; (first | with_reducible exact .z | with_reducible exact .s .z | with_reducible exact .s (.s .z) | with_reducible exact .s (.s (.s .z)) | with_reducible exact .s (.s (.s (.s .z))) | with_reducible exact .s (.s (.s (.s (.s .z))))); (focus repeat' (first | with_reducible exact .z | with_reducible apply Over.p | with_reducible apply Over.s)); (first | with_reducible exact .z | with_reducible exact .s .z | with_reducible exact .s (.s .z) | with_reducible exact .s (.s (.s .z)) | with_reducible exact .s (.s (.s (.s .z))) | with_reducible exact .s (.s (.s (.s (.s .z))))); (first | (with_reducible exact (aggS).size) | (with_reducible exact (aggT3).size) | (with_reducible exact (aggT).size) | (with_reducible exact (aggQ).size) | (with_reducible exact (aggN).size) | (with_reducible exact (oneInt).size) | (with_reducible exact (oneBool).size) | (with_reducible exact (oneU8).size) | (with_reducible exact (oneU16).size)); exact rfl; exact rfl; exact rfl; exact rfl; intro w' HM'; clear HM; have HM := HM'; clear HM'; all_goals skip)
      | (go_at_call 28; refine (pieced_at _ v (by first | exact HG.out.t0.p0 | exact HG.out.t1.p0 | exact HG.out.t2.p0) (by first | exact HG.out.t0.p1 | exact HG.out.t1.p1 | exact HG.out.t2.p1) v0 v1 _).mono ?_; rintro e w' ⟨rfl, rfl⟩)
      | (go_at_call 22; refine (set_any m k h x v v0 v1 _).mono ?_; rintro e w' ⟨rfl, hb⟩; have HM' := Lib.hid (HM.out.call hb); clear HM hb; have HM := HM'; clear HM'))
    refine bodyPost_ret (v := .agg #[.int .i64 _, .int .i64 c0, .bool o0, .int .i64 _, .int .i64 c1, .bool o1, .int .i64 _, .int .i64 c2, .bool o2, .int .u8 _, .int .i64 k, .bool h, .int .u16 _, .int .u8 _, .int .u8 _, .int .u8 _, .int .u8 _, .int .u8 _]) (own_results HM Tryd.results15 _ rfl (by first | exact .z | exact .s .z) aggS) rfl ⟨KEY.out _ _ _ _ _ _ _ _ _ (by refine ⟨?_, ?_, ?_, ?_, ?_, ?_, ?_, ?_, ?_⟩ <;> simp [wP, wQ]), Own.fin HM⟩

end Go.Proofs.YtnkfelflpkbobaaDoor
