/-
  The law PsgWrites returns true for any sound and any byte, and writes nothing that was there.
-/
import Derived.Test.YtnkfelflpkbobaaDoorPsgAlive
import Derived.Test.YtnkfelflpkbobaaDoorPsgRight
import Derived.Test.YtnkfelflpkbobaaDoorPsgNames
import Derived.Deep.Cut
import Derived.Deep.CutRange
namespace Go.Proofs.YtnkfelflpkbobaaDoor
open Go.RowKit

/-- the same byte again changes nothing -/
theorem wL_again (v l : Int) : wL v (wL v l) = wL v l := by unfold wL; split <;> rfl
theorem wP_again (i L v p : Int) : wP i L v (wP i L v p) = wP i L v p := by
  unfold wP pieceOf; (repeat' split) <;> omega
theorem wQ_again (i L v q : Int) : wQ i L v (wQ i L v q) = wQ i L v q := by unfold wQ; split <;> rfl
theorem wN_again (L v : Int) (n : Noi) : wN L v (wN L v n) = wN L v n := by unfold wN; split <;> rfl
theorem Snd.write_again (S : Snd) (v : Int) : (S.write v).write v = S.write v := by
  have a := wP_again 0 (wL v S.l) v S.t0.p
  have b := wP_again 1 (wL v S.l) v S.t1.p
  have c := wP_again 2 (wL v S.l) v S.t2.p
  unfold Snd.write
  simp only [wL_again v S.l, a, b, c, wQ_again, wN_again]

/-- one, if they differ -/
def dif (a b : Int) : Int := if a = b then 0 else 1
def sum4 (a b c d : Int) : Nat → Int
  | 0 => 0
  | 1 => a
  | 2 => a + b
  | 3 => a + b + c
  | _ => a + b + c + d
theorem difs (L v p0 p1 p2 q0 q1 q2 q3 m x : Int) (l0 : 0 ≤ L) (l1 : L < 8) :
    dif q0 (wQ 0 L v q0) + dif q1 (wQ 1 L v q1) + dif q2 (wQ 2 L v q2) + dif q3 (wQ 3 L v q3) + dif p0 (wP 0 L v p0) + dif p1 (wP 1 L v p1) + dif p2 (wP 2 L v p2) +
      (if m = (if L = 6 then v % 8 else m) ∧ x = (if L = 6 then 32768 else x) then 0 else 1) ≤ 1 := by
  rcases (show L = 0 ∨ L = 1 ∨ L = 2 ∨ L = 3 ∨ L = 4 ∨ L = 5 ∨ L = 6 ∨ L = 7 by omega) with rfl | rfl | rfl | rfl | rfl | rfl | rfl | rfl <;> simp [wQ, wP, dif] <;> split <;> omega
theorem dif_key (a b : Int) : ((a != b) = false ∧ dif a b = 0) ∨ ((a != b) = true ∧ dif a b = 1) := by
  unfold dif
  by_cases h : a = b
  · left; simp [h]
  · right; simp [h]

set_option maxRecDepth 100000 in
set_option maxHeartbeats 1600000 in
theorem writes_out (S : Snd) (hS : S.Fits) (hB : S.right = false) (v : Int) (w : World) (hT : Tab w) :
    Calls Tryd.prog 6 #[S.v, .int .u8 v] w fun e w' => e = .returned (.bool true) ∧ Below w.heap.size w w' := by
  have HT := Lib.hid hT
  have R1 : Hid (∀ w, Calls Tryd.prog 11 #[S.v] w fun e w' => e = .returned (.bool false) ∧ Below w.heap.size w w') := by rw [← hB]; exact pright_at S hS
  clear hT hB hS
  have HM := Lib.hid (Own.start w)
  have tg1 : Hid True := trivial
  have tg2 : Hid True := trivial
  go_enter Tryd.func6, Tryd.ntmps6
  go_wp2_with (first
    | ((with_reducible apply own_box HM); exact rfl; (conv => lhs; whnf); exact rfl; exact rfl; (first | (clear tg1; intro w' g1 HM') | (clear tg2; intro w' g2 HM') | (clear tg3; intro w' g3 HM') | (clear tg4; intro w' g4 HM') | intro w' g' HM'); clear HM; have HM := HM'; clear HM'; all_goals skip) | ((with_reducible apply own_alloc HM); exact rfl; (first | (with_reducible exact zeroS)); exact rfl; (first | (clear tg1; intro w' g1 HM') | (clear tg2; intro w' g2 HM') | (clear tg3; intro w' g3 HM') | (clear tg4; intro w' g4 HM') | intro w' g' HM'); clear HM; have HM := HM'; clear HM'; all_goals skip) | ((with_reducible apply own_cell HM); exact rfl; exact rfl; (first | (with_reducible exact oneInt) | (with_reducible exact oneBool) | (with_reducible exact oneU8) | (with_reducible exact oneU16)); (first | with_reducible exact .z | with_reducible exact .s .z | with_reducible exact .s (.s .z) | with_reducible exact .s (.s (.s .z)) | with_reducible exact .s (.s (.s (.s .z))) | with_reducible exact .s (.s (.s (.s (.s .z))))); (focus repeat' (first | with_reducible exact .z | with_reducible apply Drop.s)); exact rfl; all_goals skip) | ((with_reducible apply own_store HM); exact rfl; exact rfl; (conv => lhs; whnf); exact rfl; (first | with_reducible exact .z | with_reducible exact .s .z | with_reducible exact .s (.s .z) | with_reducible exact .s (.s (.s .z)) | with_reducible exact .s (.s (.s (.s .z))) | with_reducible exact .s (.s (.s (.s (.s .z))))); (focus repeat' (first | with_reducible exact .z | with_reducible apply Over.p | with_reducible apply Over.s)); (first | with_reducible exact .z | with_reducible exact .s .z | with_reducible exact .s (.s .z) | with_reducible exact .s (.s (.s .z)) | with_reducible exact .s (.s (.s (.s .z))) | with_reducible exact .s (.s (.s (.s (.s .z))))); (first | (with_reducible exact (oneInt).size) | (with_reducible exact (oneBool).size) | (with_reducible exact (oneU8).size) | (with_reducible exact (oneU16).size)); exact rfl; exact rfl; exact rfl; exact rfl; intro w' HM'; clear HM; have HM := HM'; clear HM'; all_goals skip)
    | ((with_reducible apply own_row HM); exact rfl; exact rfl; exact aggS; (first | with_reducible exact .z | with_reducible exact .s .z | with_reducible exact .s (.s .z) | with_reducible exact .s (.s (.s .z)) | with_reducible exact .s (.s (.s (.s .z))) | with_reducible exact .s (.s (.s (.s (.s .z))))); exact rfl; exact Snd.cells_length _; all_goals skip) | ((with_reducible apply own_lay HM); exact rfl; exact rfl; exact rfl; (first | with_reducible exact .z | with_reducible exact .s .z | with_reducible exact .s (.s .z) | with_reducible exact .s (.s (.s .z)) | with_reducible exact .s (.s (.s (.s .z))) | with_reducible exact .s (.s (.s (.s (.s .z))))); (first | with_reducible exact .z | with_reducible exact .s .z | with_reducible exact .s (.s .z) | with_reducible exact .s (.s (.s .z)) | with_reducible exact .s (.s (.s (.s .z))) | with_reducible exact .s (.s (.s (.s (.s .z))))); exact aggS.size; (first | exact Snd.cells_length _ | exact rfl); (first | exact Snd.cells_length _ | exact rfl); (first | exact Snd.one _ | exact rfl); exact rfl; exact rfl; intro w' HM'; clear HM; have HM := HM'; clear HM'; all_goals skip)
    | (go_at_call 9; refine (psgAlive_any _ (Tab.own HT HM)).mono ?_; rintro e w' ⟨rfl, hb⟩; have HM' := Lib.hid (HM.out.call hb); clear HM hb; have HM := HM'; clear HM')
    | (go_at_call 11; refine (R1.out _).mono ?_; rintro e w' ⟨rfl, hb⟩; have HM' := Lib.hid (HM.out.call hb); clear HM hb; have HM := HM'; clear HM'))
  go_ret
  exact ⟨rfl, Own.fin HM⟩

set_option maxRecDepth 100000 in
set_option maxHeartbeats 3200000 in
theorem writes_in (S : Snd) (hS : S.Good) (v : Int) (v0 : 0 ≤ v) (v1 : v < 256) (w : World) (hT : Tab w) :
    Calls Tryd.prog 6 #[S.v, .int .u8 v] w fun e w' => e = .returned (.bool true) ∧ Below w.heap.size w w' := by
  have HT := Lib.hid hT
  have R1 : Hid (∀ w, Calls Tryd.prog 11 #[S.v] w fun e w' => e = .returned (.bool true) ∧ Below w.heap.size w w') := by rw [← hS.right]; exact pright_at S hS.fits
  have W1 := write_at S hS v v0 v1
  have W2 := write_at (S.write v) (hS.write v v0) v v0 v1
  rw [S.write_again v] at W2
  have hl := wL_bd v S.l v0 hS.l0 hS.l1
  have hd := difs (wL v S.l) v S.t0.p S.t1.p S.t2.p S.q0 S.q1 S.q2 S.q3 S.n.m S.n.x hl.1 hl.2
  have hLL : (128 ≤ v ∧ ∀ i q, wL v S.l = 2 * i + 1 → wQ i (wL v S.l) v q = v % 16) ∨ (v < 128 ∧ wL v S.l = S.l) := by
    by_cases hv : 128 ≤ v
    · left; refine ⟨hv, fun i q e => ?_⟩; unfold wQ; rw [if_pos e]
    · right; refine ⟨by omega, ?_⟩; unfold wL; rw [if_neg hv]
  obtain ⟨⟨p0, c0, o0⟩, ⟨p1, c1, o1⟩, ⟨p2, c2, o2⟩, ⟨m, k, h, x⟩, q0, q1, q2, q3, l⟩ := S
  clear hT hS
  have hw : Snd.write ⟨⟨p0, c0, o0⟩, ⟨p1, c1, o1⟩, ⟨p2, c2, o2⟩, ⟨m, k, h, x⟩, q0, q1, q2, q3, l⟩ v = ⟨⟨wP 0 (wL v l) v p0, c0, o0⟩, ⟨wP 1 (wL v l) v p1, c1, o1⟩, ⟨wP 2 (wL v l) v p2, c2, o2⟩, ⟨if wL v l = 6 then v % 8 else m, k, h, if wL v l = 6 then 32768 else x⟩, wQ 0 (wL v l) v q0, wQ 1 (wL v l) v q1, wQ 2 (wL v l) v q2, wQ 3 (wL v l) v q3, wL v l⟩ := by
    unfold Snd.write wN
    by_cases h6 : wL v l = 6
    · simp only [if_pos h6]
    · simp only [if_neg h6]
  rw [hw] at W1 W2
  clear hw
  simp only at hl hd hLL
  obtain ⟨L, hL⟩ : ∃ L, L = wL v l := ⟨_, rfl⟩
  rw [← hL] at W1 W2 hl hd hLL
  clear hL
  obtain ⟨P0, hP0⟩ : ∃ y : Int, y = wP 0 L v p0 := ⟨_, rfl⟩
  obtain ⟨P1, hP1⟩ : ∃ y : Int, y = wP 1 L v p1 := ⟨_, rfl⟩
  obtain ⟨P2, hP2⟩ : ∃ y : Int, y = wP 2 L v p2 := ⟨_, rfl⟩
  obtain ⟨Q0, hQ0⟩ : ∃ y : Int, y = wQ 0 L v q0 := ⟨_, rfl⟩
  obtain ⟨Q1, hQ1⟩ : ∃ y : Int, y = wQ 1 L v q1 := ⟨_, rfl⟩
  obtain ⟨Q2, hQ2⟩ : ∃ y : Int, y = wQ 2 L v q2 := ⟨_, rfl⟩
  obtain ⟨Q3, hQ3⟩ : ∃ y : Int, y = wQ 3 L v q3 := ⟨_, rfl⟩
  obtain ⟨M, hM⟩ : ∃ y : Int, y = if L = 6 then v % 8 else m := ⟨_, rfl⟩
  obtain ⟨X, hX⟩ : ∃ y : Int, y = if L = 6 then (32768 : Int) else x := ⟨_, rfl⟩
  rw [← hP0, ← hP1, ← hP2, ← hQ0, ← hQ1, ← hQ2, ← hQ3, ← hM, ← hX] at W1 W2 hd
  have hodd : (128 ≤ v ∧ (L = 1 → Q0 = v % 16) ∧ (L = 3 → Q1 = v % 16) ∧ (L = 5 → Q2 = v % 16) ∧ (L = 7 → Q3 = v % 16)) ∨ (v < 128 ∧ L = l) := by
    rcases hLL with ⟨a, b⟩ | ⟨a, b⟩
    · left; exact ⟨a, fun e => by rw [hQ0]; exact b 0 q0 e, fun e => by rw [hQ1]; exact b 1 q1 e, fun e => by rw [hQ2]; exact b 2 q2 e, fun e => by rw [hQ3]; exact b 3 q3 e⟩
    · right; exact ⟨a, b⟩
  clear hLL hP0 hP1 hP2 hQ0 hQ1 hQ2 hQ3 hM hX
  have HODD := Lib.hid hodd
  clear hodd
  have HW1 : Hid (∀ w, Calls Tryd.prog 15 #[.agg #[.int .i64 p0, .int .i64 c0, .bool o0, .int .i64 p1, .int .i64 c1, .bool o1, .int .i64 p2, .int .i64 c2, .bool o2, .int .u8 m, .int .i64 k, .bool h, .int .u16 x, .int .u8 q0, .int .u8 q1, .int .u8 q2, .int .u8 q3, .int .u8 l], .int .u8 v] w fun e w' => e = .returned (.agg #[.int .i64 P0, .int .i64 c0, .bool o0, .int .i64 P1, .int .i64 c1, .bool o1, .int .i64 P2, .int .i64 c2, .bool o2, .int .u8 M, .int .i64 k, .bool h, .int .u16 X, .int .u8 Q0, .int .u8 Q1, .int .u8 Q2, .int .u8 Q3, .int .u8 L]) ∧ Below w.heap.size w w') := W1
  have HW2 : Hid (∀ w, Calls Tryd.prog 15 #[.agg #[.int .i64 P0, .int .i64 c0, .bool o0, .int .i64 P1, .int .i64 c1, .bool o1, .int .i64 P2, .int .i64 c2, .bool o2, .int .u8 M, .int .i64 k, .bool h, .int .u16 X, .int .u8 Q0, .int .u8 Q1, .int .u8 Q2, .int .u8 Q3, .int .u8 L], .int .u8 v] w fun e w' => e = .returned (.agg #[.int .i64 P0, .int .i64 c0, .bool o0, .int .i64 P1, .int .i64 c1, .bool o1, .int .i64 P2, .int .i64 c2, .bool o2, .int .u8 M, .int .i64 k, .bool h, .int .u16 X, .int .u8 Q0, .int .u8 Q1, .int .u8 Q2, .int .u8 Q3, .int .u8 L]) ∧ Below w.heap.size w w') := W2
  have HR1 : Hid (∀ w, Calls Tryd.prog 11 #[.agg #[.int .i64 p0, .int .i64 c0, .bool o0, .int .i64 p1, .int .i64 c1, .bool o1, .int .i64 p2, .int .i64 c2, .bool o2, .int .u8 m, .int .i64 k, .bool h, .int .u16 x, .int .u8 q0, .int .u8 q1, .int .u8 q2, .int .u8 q3, .int .u8 l]] w fun e w' => e = .returned (.bool true) ∧ Below w.heap.size w w') := R1.out
  obtain ⟨nb, hnb⟩ : ∃ nb : Bool, nb = (m == M && (k == k && (h == h && x == X))) := ⟨_, rfl⟩
  have EN : ∀ w, (Op.equalIn 10000 27 (.agg #[.int .u8 m, .int .i64 k, .bool h, .int .u16 x]) (.agg #[.int .u8 M, .int .i64 k, .bool h, .int .u16 X])).run Tryd.prog w = .ok nb w := by
    rw [hnb]; exact fun w => noise_eq 9998 m k h x M k h X w
  have hnn : (if m = M ∧ x = X then (0 : Int) else 1) = if nb = true then 0 else 1 := by
    rw [hnb]; simp
  rw [hnn] at hd
  clear hnn hnb W1 W2 R1
  have ES := sound_same P0 c0 o0 P1 c1 o1 P2 c2 o2 M k h X Q0 Q1 Q2 Q3 L
  have Ka0 := dif_key q0 Q0
  obtain ⟨a0, ha0⟩ : ∃ y, y = dif q0 Q0 := ⟨_, rfl⟩
  rw [← ha0] at Ka0 hd
  clear ha0
  have Ka1 := dif_key q1 Q1
  obtain ⟨a1, ha1⟩ : ∃ y, y = dif q1 Q1 := ⟨_, rfl⟩
  rw [← ha1] at Ka1 hd
  clear ha1
  have Ka2 := dif_key q2 Q2
  obtain ⟨a2, ha2⟩ : ∃ y, y = dif q2 Q2 := ⟨_, rfl⟩
  rw [← ha2] at Ka2 hd
  clear ha2
  have Ka3 := dif_key q3 Q3
  obtain ⟨a3, ha3⟩ : ∃ y, y = dif q3 Q3 := ⟨_, rfl⟩
  rw [← ha3] at Ka3 hd
  clear ha3
  have Kb0 := dif_key p0 P0
  obtain ⟨b0, hb0⟩ : ∃ y, y = dif p0 P0 := ⟨_, rfl⟩
  rw [← hb0] at Kb0 hd
  clear hb0
  have Kb1 := dif_key p1 P1
  obtain ⟨b1, hb1⟩ : ∃ y, y = dif p1 P1 := ⟨_, rfl⟩
  rw [← hb1] at Kb1 hd
  clear hb1
  have Kb2 := dif_key p2 P2
  obtain ⟨b2, hb2⟩ : ∃ y, y = dif p2 P2 := ⟨_, rfl⟩
  rw [← hb2] at Kb2 hd
  clear hb2
  obtain ⟨z, hz⟩ : ∃ z : Int, z = if nb = true then 0 else 1 := ⟨_, rfl⟩
  rw [← hz] at hd
  have HKa0 := Lib.hid Ka0
  have HKa1 := Lib.hid Ka1
  have HKa2 := Lib.hid Ka2
  have HKa3 := Lib.hid Ka3
  have HKb0 := Lib.hid Kb0
  have HKb1 := Lib.hid Kb1
  have HKb2 := Lib.hid Kb2
  have HZ := Lib.hid hz
  have HD := Lib.hid hd
  clear hz hd Ka0 Ka1 Ka2 Ka3 Kb0 Kb1 Kb2
  have HM := Lib.hid (Own.start w)
  have tg1 : Hid True := trivial
  have tg2 : Hid True := trivial
  show Calls Tryd.prog 6 #[.agg #[.int .i64 p0, .int .i64 c0, .bool o0, .int .i64 p1, .int .i64 c1, .bool o1, .int .i64 p2, .int .i64 c2, .bool o2, .int .u8 m, .int .i64 k, .bool h, .int .u16 x, .int .u8 q0, .int .u8 q1, .int .u8 q2, .int .u8 q3, .int .u8 l], .int .u8 v] w _
  go_enter Tryd.func6, Tryd.ntmps6
  go_wp2_with (first
    | ((with_reducible apply own_box HM); exact rfl; (conv => lhs; whnf); exact rfl; exact rfl; (first | (clear tg1; intro w' g1 HM') | (clear tg2; intro w' g2 HM') | (clear tg3; intro w' g3 HM') | (clear tg4; intro w' g4 HM') | intro w' g' HM'); clear HM; have HM := HM'; clear HM'; all_goals skip) | ((with_reducible apply own_alloc HM); exact rfl; (first | (with_reducible exact zeroS)); exact rfl; (first | (clear tg1; intro w' g1 HM') | (clear tg2; intro w' g2 HM') | (clear tg3; intro w' g3 HM') | (clear tg4; intro w' g4 HM') | intro w' g' HM'); clear HM; have HM := HM'; clear HM'; all_goals skip) | ((with_reducible apply own_cell HM); exact rfl; exact rfl; (first | (with_reducible exact oneInt) | (with_reducible exact oneBool) | (with_reducible exact oneU8) | (with_reducible exact oneU16)); (first | with_reducible exact .z | with_reducible exact .s .z | with_reducible exact .s (.s .z) | with_reducible exact .s (.s (.s .z)) | with_reducible exact .s (.s (.s (.s .z))) | with_reducible exact .s (.s (.s (.s (.s .z))))); (focus repeat' (first | with_reducible exact .z | with_reducible apply Drop.s)); exact rfl; all_goals skip) | ((with_reducible apply own_load HM); exact rfl; exact rfl; (first | (with_reducible exact aggS) | (with_reducible exact aggT3) | (with_reducible exact aggT) | (with_reducible exact aggQ) | (with_reducible exact aggN)); (first | with_reducible exact .z | with_reducible exact .s .z | with_reducible exact .s (.s .z) | with_reducible exact .s (.s (.s .z)) | with_reducible exact .s (.s (.s (.s .z))) | with_reducible exact .s (.s (.s (.s (.s .z))))); (focus repeat' (first | with_reducible exact .z | with_reducible apply Drop.s)); (focus repeat' (first | with_reducible exact .z | with_reducible apply Take.s)); exact rfl; all_goals skip) | ((with_reducible apply own_store HM); exact rfl; exact rfl; (conv => lhs; whnf); exact rfl; (first | with_reducible exact .z | with_reducible exact .s .z | with_reducible exact .s (.s .z) | with_reducible exact .s (.s (.s .z)) | with_reducible exact .s (.s (.s (.s .z))) | with_reducible exact .s (.s (.s (.s (.s .z))))); (focus repeat' (first | with_reducible exact .z | with_reducible apply Over.p | with_reducible apply Over.s)); (first | with_reducible exact .z | with_reducible exact .s .z | with_reducible exact .s (.s .z) | with_reducible exact .s (.s (.s .z)) | with_reducible exact .s (.s (.s (.s .z))) | with_reducible exact .s (.s (.s (.s (.s .z))))); (first | (with_reducible exact (aggS).size) | (with_reducible exact (aggT3).size) | (with_reducible exact (aggT).size) | (with_reducible exact (aggQ).size) | (with_reducible exact (aggN).size) | (with_reducible exact (oneInt).size) | (with_reducible exact (oneBool).size) | (with_reducible exact (oneU8).size) | (with_reducible exact (oneU16).size)); exact rfl; exact rfl; exact rfl; exact rfl; intro w' HM'; clear HM; have HM := HM'; clear HM'; all_goals skip)
    | (go_at_call 9; refine (psgAlive_any _ (Tab.own HT HM)).mono ?_; rintro e w' ⟨rfl, hb⟩; have HM' := Lib.hid (HM.out.call hb); clear HM hb; have HM := HM'; clear HM')
    | (go_at_call 15; refine (HW1.out _).mono ?_; rintro e w' ⟨rfl, hb⟩; have HM' := Lib.hid (HM.out.call hb); clear HM hb; have HM := HM'; clear HM')
    | (go_at_call 11; refine (HR1.out _).mono ?_; rintro e w' ⟨rfl, hb⟩; have HM' := Lib.hid (HM.out.call hb); clear HM hb; have HM := HM'; clear HM'))
  go_loopw [6, 17] (fun s i wr => ∃ (j : Nat) (C : Int), j ≤ 4 ∧ i = .int .i64 j ∧ s = .int .i64 C ∧ 0 ≤ C ∧ C ≤ j ∧ Hid (C = sum4 a0 a1 a2 a3 j) ∧ Hid (Own w wr [(g2, 30, [.int .i64 P0, .int .i64 c0, .bool o0, .int .i64 P1, .int .i64 c1, .bool o1, .int .i64 P2, .int .i64 c2, .bool o2, .int .u8 M, .int .i64 k, .bool h, .int .u16 X, .int .u8 Q0, .int .u8 Q1, .int .u8 Q2, .int .u8 Q3, .int .u8 L]), (g1, 30, [.int .i64 p0, .int .i64 c0, .bool o0, .int .i64 p1, .int .i64 c1, .bool o1, .int .i64 p2, .int .i64 c2, .bool o2, .int .u8 m, .int .i64 k, .bool h, .int .u16 x, .int .u8 q0, .int .u8 q1, .int .u8 q2, .int .u8 q3, .int .u8 l])])) (fun _ i _ => 4 - (intOf i).toNat)
  case atStart => exact ⟨0, 0, by omega, rfl, rfl, by omega, by omega, rfl, HM⟩
  case round =>
    clear HM
    obtain ⟨j, C, hj, rfl, rfl, C0, C1, HC, HM⟩ := hrel
    rcases (show j = 0 ∨ j = 1 ∨ j = 2 ∨ j = 3 ∨ j = 4 by omega) with rfl | rfl | rfl | rfl | rfl
    case' inl => obtain ⟨hn, hd⟩ | ⟨hn, hd⟩ := HKa0.out
    case' inr.inl => obtain ⟨hn, hd⟩ | ⟨hn, hd⟩ := HKa1.out
    case' inr.inr.inl => obtain ⟨hn, hd⟩ | ⟨hn, hd⟩ := HKa2.out
    case' inr.inr.inr.inl => obtain ⟨hn, hd⟩ | ⟨hn, hd⟩ := HKa3.out
    case' inl.inl | inl.inr | inr.inl.inl | inr.inl.inr | inr.inr.inl.inl | inr.inr.inl.inr | inr.inr.inr.inl.inl | inr.inr.inr.inl.inr =>
      have HDD := Lib.hid hd
      clear hd
      go_wp2_with fail
      (refine own_region HM (by kernel_rfl) (by kernel_rfl) ?_; (try simp only [Act.put, List.setIfInBounds_toArray, List.set_cons_zero, List.set_cons_succ]); repeat ((fail_if_success (with_reducible refine wpQuiet_nil ?_)); first | go_big_quiet_skip | (go_big_quiet_want; first | ((with_reducible apply quiet_cell); exact rfl; (first | (with_reducible exact oneU8)); (first | with_reducible exact .z | with_reducible exact .s .z | with_reducible exact .s (.s .z) | with_reducible exact .s (.s (.s .z)) | with_reducible exact .s (.s (.s (.s .z))) | with_reducible exact .s (.s (.s (.s (.s .z))))); (focus repeat' (first | with_reducible exact .z | with_reducible apply Drop.s)); go_big_quiet_op; go_big_quiet_on) | (go_big_quiet_op; go_big_quiet_on) | (go_big_quiet_op; refine ⟨_, fun _ _ => rfl, ?_⟩; go_big_quiet_on))))
      refine wpQuiet_nil ?_
      intro w' HM'
      clear HM
      have HM := HM'
      clear HM'
      go_wp2_with fail
      go_roundw
      case rel =>
        first
          | refine ⟨1, _, by omega, rfl, rfl, ?_, ?_, ?_, HM⟩
          | refine ⟨2, _, by omega, rfl, rfl, ?_, ?_, ?_, HM⟩
          | refine ⟨3, _, by omega, rfl, rfl, ?_, ?_, ?_, HM⟩
          | refine ⟨4, _, by omega, rfl, rfl, ?_, ?_, ?_, HM⟩
        · omega
        · omega
        · show _ = _
          have hc := HC.out
          have hdd := HDD.out
          simp only [sum4] at hc ⊢
          omega
      case measure => simp [intOf]
    have hS := HC.out
    obtain ⟨s4, hs4⟩ : ∃ y, y = sum4 a0 a1 a2 a3 4 := ⟨_, rfl⟩
    rw [← hs4] at hS
    have HS4 := Lib.hid hs4
    clear hs4 HC
    subst hS
    go_wp2_with fail
    go_loopw [6, 32] (fun s i wr => ∃ (j : Nat) (D : Int), j ≤ 3 ∧ i = .int .i64 j ∧ s = .int .i64 D ∧ 0 ≤ D ∧ D ≤ 4 + j ∧ Hid (D = C + sum4 b0 b1 b2 0 j) ∧ Hid (Own w wr [(g2, 30, [.int .i64 P0, .int .i64 c0, .bool o0, .int .i64 P1, .int .i64 c1, .bool o1, .int .i64 P2, .int .i64 c2, .bool o2, .int .u8 M, .int .i64 k, .bool h, .int .u16 X, .int .u8 Q0, .int .u8 Q1, .int .u8 Q2, .int .u8 Q3, .int .u8 L]), (g1, 30, [.int .i64 p0, .int .i64 c0, .bool o0, .int .i64 p1, .int .i64 c1, .bool o1, .int .i64 p2, .int .i64 c2, .bool o2, .int .u8 m, .int .i64 k, .bool h, .int .u16 x, .int .u8 q0, .int .u8 q1, .int .u8 q2, .int .u8 q3, .int .u8 l])])) (fun _ i _ => 3 - (intOf i).toNat)
    case atStart => exact ⟨0, C, by omega, rfl, rfl, by omega, by omega, by show _ = _; simp [sum4], HM⟩
    case round =>
      clear HM
      obtain ⟨j, D, hj, rfl, rfl, D0, D1, HC, HM⟩ := hrel
      rcases (show j = 0 ∨ j = 1 ∨ j = 2 ∨ j = 3 by omega) with rfl | rfl | rfl | rfl
      case' inl => obtain ⟨hn, hd⟩ | ⟨hn, hd⟩ := HKb0.out
      case' inr.inl => obtain ⟨hn, hd⟩ | ⟨hn, hd⟩ := HKb1.out
      case' inr.inr.inl => obtain ⟨hn, hd⟩ | ⟨hn, hd⟩ := HKb2.out
      case' inl.inl | inl.inr | inr.inl.inl | inr.inl.inr | inr.inr.inl.inl | inr.inr.inl.inr =>
        have HDD := Lib.hid hd
        clear hd
        go_wp2_with fail
        (refine own_region HM (by kernel_rfl) (by kernel_rfl) ?_; (try simp only [Act.put, List.setIfInBounds_toArray, List.set_cons_zero, List.set_cons_succ]); repeat ((fail_if_success (with_reducible refine wpQuiet_nil ?_)); first | go_big_quiet_skip | (go_big_quiet_want; first | ((with_reducible apply quiet_cell); exact rfl; (first | (with_reducible exact oneInt) | (with_reducible exact oneBool)); (first | with_reducible exact .z | with_reducible exact .s .z | with_reducible exact .s (.s .z) | with_reducible exact .s (.s (.s .z)) | with_reducible exact .s (.s (.s (.s .z))) | with_reducible exact .s (.s (.s (.s (.s .z))))); (focus repeat' (first | with_reducible exact .z | with_reducible apply Drop.s)); go_big_quiet_op; go_big_quiet_on) | (go_big_quiet_op; go_big_quiet_on) | (go_big_quiet_op; refine ⟨_, fun _ _ => rfl, ?_⟩; go_big_quiet_on))))
        refine wpQuiet_nil ?_
        intro w' HM'
        clear HM
        have HM := HM'
        clear HM'
        go_wp2_with fail
        (refine own_region HM (by kernel_rfl) (by kernel_rfl) ?_; (try simp only [Act.put, List.setIfInBounds_toArray, List.set_cons_zero, List.set_cons_succ]); repeat ((fail_if_success (with_reducible refine wpQuiet_nil ?_)); first | go_big_quiet_skip | (go_big_quiet_want; first | ((with_reducible apply quiet_cell); exact rfl; (first | (with_reducible exact oneInt) | (with_reducible exact oneBool)); (first | with_reducible exact .z | with_reducible exact .s .z | with_reducible exact .s (.s .z) | with_reducible exact .s (.s (.s .z)) | with_reducible exact .s (.s (.s (.s .z))) | with_reducible exact .s (.s (.s (.s (.s .z))))); (focus repeat' (first | with_reducible exact .z | with_reducible apply Drop.s)); go_big_quiet_op; go_big_quiet_on) | (go_big_quiet_op; go_big_quiet_on) | (go_big_quiet_op; refine ⟨_, fun _ _ => rfl, ?_⟩; go_big_quiet_on))))
        refine wpQuiet_nil ?_
        intro w' HM'
        clear HM
        have HM := HM'
        clear HM'
        go_wp2_with fail
        go_roundw
        case rel =>
          first
            | refine ⟨1, _, by omega, rfl, rfl, ?_, ?_, ?_, HM⟩
            | refine ⟨2, _, by omega, rfl, rfl, ?_, ?_, ?_, HM⟩
            | refine ⟨3, _, by omega, rfl, rfl, ?_, ?_, ?_, HM⟩
          · omega
          · omega
          · show _ = _
            have hc := HC.out
            have hdd := HDD.out
            simp only [sum4] at hc ⊢
            omega
        case measure => simp [intOf]
      -- behind both loops: the noise, the latch, and the last words
      have hcnt : D + z ≤ 1 := by
        have h1 := HC.out
        have h2 := HS4.out
        have h3 := HD.out
        simp only [sum4] at h1 h2
        omega
      clear HC HS4 HD
      have hle : (D + z ≤ 1) = True := eq_true hcnt
      have z01 : 0 ≤ z ∧ z ≤ 1 := by
        have hz := HZ.out
        cases nb
        · simp at hz; omega
        · simp at hz; omega
      go_upto_if 77 with (first
        | ((with_reducible apply own_box HM); exact rfl; (conv => lhs; whnf); exact rfl; exact rfl; (first | (clear tg1; intro w' g1 HM') | (clear tg2; intro w' g2 HM') | (clear tg3; intro w' g3 HM') | (clear tg4; intro w' g4 HM') | intro w' g' HM'); clear HM; have HM := HM'; clear HM'; all_goals skip) | ((with_reducible apply own_cell HM); exact rfl; exact rfl; (first | (with_reducible exact oneInt) | (with_reducible exact oneBool) | (with_reducible exact oneU8) | (with_reducible exact oneU16)); (first | with_reducible exact .z | with_reducible exact .s .z | with_reducible exact .s (.s .z) | with_reducible exact .s (.s (.s .z)) | with_reducible exact .s (.s (.s (.s .z))) | with_reducible exact .s (.s (.s (.s (.s .z))))); (focus repeat' (first | with_reducible exact .z | with_reducible apply Drop.s)); exact rfl; all_goals skip) | ((with_reducible apply own_load HM); exact rfl; exact rfl; (first | (with_reducible exact aggN)); (first | with_reducible exact .z | with_reducible exact .s .z | with_reducible exact .s (.s .z) | with_reducible exact .s (.s (.s .z)) | with_reducible exact .s (.s (.s (.s .z))) | with_reducible exact .s (.s (.s (.s (.s .z))))); (focus repeat' (first | with_reducible exact .z | with_reducible apply Drop.s)); (focus repeat' (first | with_reducible exact .z | with_reducible apply Take.s)); exact rfl; all_goals skip) | ((with_reducible apply own_store HM); exact rfl; exact rfl; (conv => lhs; whnf); exact rfl; (first | with_reducible exact .z | with_reducible exact .s .z | with_reducible exact .s (.s .z) | with_reducible exact .s (.s (.s .z)) | with_reducible exact .s (.s (.s (.s .z))) | with_reducible exact .s (.s (.s (.s (.s .z))))); (focus repeat' (first | with_reducible exact .z | with_reducible apply Over.p | with_reducible apply Over.s)); (first | with_reducible exact .z | with_reducible exact .s .z | with_reducible exact .s (.s .z) | with_reducible exact .s (.s (.s .z)) | with_reducible exact .s (.s (.s (.s .z))) | with_reducible exact .s (.s (.s (.s (.s .z))))); (first | (with_reducible exact (aggN).size) | (with_reducible exact (oneInt).size) | (with_reducible exact (oneBool).size) | (with_reducible exact (oneU8).size) | (with_reducible exact (oneU16).size)); exact rfl; exact rfl; exact rfl; exact rfl; intro w' HM'; clear HM; have HM := HM'; clear HM'; all_goals skip))
      go_cut [6] from 73 to 79 (fun s6 wx => s6 = .int .i64 (D + z) ∧ Hid (Own w wx [(g2, 30, [.int .i64 P0, .int .i64 c0, .bool o0, .int .i64 P1, .int .i64 c1, .bool o1, .int .i64 P2, .int .i64 c2, .bool o2, .int .u8 M, .int .i64 k, .bool h, .int .u16 X, .int .u8 Q0, .int .u8 Q1, .int .u8 Q2, .int .u8 Q3, .int .u8 L]), (g1, 30, [.int .i64 p0, .int .i64 c0, .bool o0, .int .i64 p1, .int .i64 c1, .bool o1, .int .i64 p2, .int .i64 c2, .bool o2, .int .u8 m, .int .i64 k, .bool h, .int .u16 x, .int .u8 q0, .int .u8 q1, .int .u8 q2, .int .u8 q3, .int .u8 l])]))
      case' first =>
        have hz := HZ.out
        cases nb
        all_goals
          simp at hz
          have HZZ := Lib.hid hz
          clear hz
          go_wp2_with fail
          go_meet
          refine ⟨?_, HM⟩
          simp only [HZZ.out, Int.add_zero]
      case' rest =>
        clear HM
        obtain ⟨rfl, HM⟩ := hcut
        have hm : v.tmod 16 = v % 16 := Int.tmod_eq_emod_of_nonneg v0
        go_upto_region 23 with fail
        go_cut [109] from 80 to 109 (fun s109 wx => s109 = .bool false ∧ Hid (Own w wx [(g2, 30, [.int .i64 P0, .int .i64 c0, .bool o0, .int .i64 P1, .int .i64 c1, .bool o1, .int .i64 P2, .int .i64 c2, .bool o2, .int .u8 M, .int .i64 k, .bool h, .int .u16 X, .int .u8 Q0, .int .u8 Q1, .int .u8 Q2, .int .u8 Q3, .int .u8 L]), (g1, 30, [.int .i64 p0, .int .i64 c0, .bool o0, .int .i64 p1, .int .i64 c1, .bool o1, .int .i64 p2, .int .i64 c2, .bool o2, .int .u8 m, .int .i64 k, .bool h, .int .u16 x, .int .u8 q0, .int .u8 q1, .int .u8 q2, .int .u8 q3, .int .u8 l])]))
        case' first =>
          have cQ0 := (HM.out.at_ .z).at_ 13
          have cQ1 := (HM.out.at_ .z).at_ 14
          have cQ2 := (HM.out.at_ .z).at_ 15
          have cQ3 := (HM.out.at_ .z).at_ 16
          have cL := (HM.out.at_ .z).at_ 17
          have cl := (HM.out.at_ (.s .z)).at_ 17
          simp only [List.getElem?_cons_succ, List.getElem?_cons_zero] at cQ0 cQ1 cQ2 cQ3 cL cl
          have hmt : L.tmod 2 = L % 2 := Int.tmod_eq_emod_of_nonneg hl.1
          rcases HODD.out with ⟨hv, w1, w3, w5, w7⟩ | ⟨hv, hle2⟩
          · have hv1 : (128 ≤ v) = True := eq_true hv
            have hv2 : (v < 128) = False := eq_false (by omega)
            rcases (show L % 2 = 0 ∨ L = 1 ∨ L = 3 ∨ L = 5 ∨ L = 7 by omega) with hcL | hcL | hcL | hcL | hcL
            case' inl =>
              have hq : (L % 2 == 1) = false := by rw [hcL]; rfl
              clear hcL
            case' inr.inl =>
              have hq : (Q0 != v % 16) = false := by rw [w1 hcL]; simp
              subst hcL
            case' inr.inr.inl =>
              have hq : (Q1 != v % 16) = false := by rw [w3 hcL]; simp
              subst hcL
            case' inr.inr.inr.inl =>
              have hq : (Q2 != v % 16) = false := by rw [w5 hcL]; simp
              subst hcL
            case' inr.inr.inr.inr =>
              have hq : (Q3 != v % 16) = false := by rw [w7 hcL]; simp
              subst hcL
            all_goals
              clear w1 w3 w5 w7
              go_wp2_with fail
              go_meet
              exact ⟨by first | rfl | simp, HM⟩
          · have hv1 : (128 ≤ v) = False := eq_false (by omega)
            have hv2 : (v < 128) = True := eq_true hv
            have hll : (L != l) = false := by simp [hle2]
            clear hle2
            go_wp2_with fail
            go_meet
            exact ⟨by first | rfl | simp, HM⟩
        case' rest =>
          clear HM
          obtain ⟨rfl, HM⟩ := hcut
          go_wp2_with fail
          (refine own_region HM (by kernel_rfl) (by kernel_rfl) ?_; (try simp only [Act.put, List.setIfInBounds_toArray, List.set_cons_zero, List.set_cons_succ]); repeat ((fail_if_success (with_reducible refine wpQuiet_nil ?_)); first | go_big_quiet_skip | (go_big_quiet_want; first | ((with_reducible apply quiet_load); exact rfl; (first | (with_reducible exact aggS)); (first | with_reducible exact .z | with_reducible exact .s .z | with_reducible exact .s (.s .z) | with_reducible exact .s (.s (.s .z)) | with_reducible exact .s (.s (.s (.s .z))) | with_reducible exact .s (.s (.s (.s (.s .z))))); (focus repeat' (first | with_reducible exact .z | with_reducible apply Drop.s)); (focus repeat' (first | with_reducible exact .z | with_reducible apply Take.s)); go_big_quiet_op; go_big_quiet_on) | ((with_reducible apply quiet_cell); exact rfl; (first | (with_reducible exact oneInt) | (with_reducible exact oneBool)); (first | with_reducible exact .z | with_reducible exact .s .z | with_reducible exact .s (.s .z) | with_reducible exact .s (.s (.s .z)) | with_reducible exact .s (.s (.s (.s .z))) | with_reducible exact .s (.s (.s (.s (.s .z))))); (focus repeat' (first | with_reducible exact .z | with_reducible apply Drop.s)); go_big_quiet_op; go_big_quiet_on) | ((with_reducible apply quiet_call); exact fun w => rfl; (focus (go_simp; all_goals with_reducible rfl)); (intro wq HQ; first | exact HW2.out _); go_big_quiet_op; go_big_quiet_on) | (go_big_quiet_op; go_big_quiet_on) | (go_big_quiet_op; refine ⟨_, fun _ _ => rfl, ?_⟩; go_big_quiet_on))))
          refine wpQuiet_nil ?_
          intro w' HM'
          clear HM
          have HM := HM'
          clear HM'
          go_wp2_with fail
          go_ret
          exact ⟨rfl, Own.fin HM⟩

theorem writes_any (S : Snd) (hS : S.Fits) (v : Int) (v0 : 0 ≤ v) (v1 : v < 256) (w : World) (hT : Tab w) :
    Calls Tryd.prog 6 #[S.v, .int .u8 v] w fun e w' => e = .returned (.bool true) ∧ Below w.heap.size w w' := by
  rcases Bool.eq_false_or_eq_true S.right with h | h
  · exact writes_in S (hS.good h) v v0 v1 w hT
  · exact writes_out S hS h v w hT

end Go.Proofs.YtnkfelflpkbobaaDoor
