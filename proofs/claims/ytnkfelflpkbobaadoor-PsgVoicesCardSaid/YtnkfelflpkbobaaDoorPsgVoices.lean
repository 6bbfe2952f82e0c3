/-
  The law PsgVoices returns true for any sound, and writes nothing that was there.
-/
import Derived.Test.YtnkfelflpkbobaaDoorPsgAlive
import Derived.Test.YtnkfelflpkbobaaDoorPsgRight
import Derived.Test.YtnkfelflpkbobaaDoorPsgNames
import Derived.Deep.Cut
import Derived.Deep.CutRange
namespace Go.Proofs.YtnkfelflpkbobaaDoor
open Go.RowKit

theorem vol_less (q : Int) (q0 : 0 ≤ q) (q1 : q < 15) : volOf (q + 1) < volOf q := by
  obtain ⟨j, rfl⟩ := Int.eq_ofNat_of_zero_le q0
  have hj : j < 15 := by omega
  have h : ∀ j : Nat, j < 15 → volOf ((j : Int) + 1) < volOf (j : Int) := by decide
  exact h j hj
theorem sayB_15 (o : Bool) : sayB o 15 = 0 := by cases o <;> decide
def sumV (a b c d : Int) : Nat → Int
  | 0 => 0
  | 1 => a
  | 2 => a + b
  | 3 => a + b + c
  | _ => a + b + c + d

set_option maxRecDepth 100000 in
set_option maxHeartbeats 1600000 in
theorem voices_out (S : Snd) (hS : S.Fits) (hB : S.right = false) (w : World) (hT : Tab w) :
    Calls Tryd.prog 7 #[S.v] w fun e w' => e = .returned (.bool true) ∧ Below w.heap.size w w' := by
  have HT := Lib.hid hT
  have R1 : Hid (∀ w, Calls Tryd.prog 11 #[S.v] w fun e w' => e = .returned (.bool false) ∧ Below w.heap.size w w') := by rw [← hB]; exact pright_at S hS
  clear hT hB hS
  have HM := Lib.hid (Own.start w)
  have tg1 : Hid True := trivial
  have tg2 : Hid True := trivial
  go_enter Tryd.func7, Tryd.ntmps7
  go_wp2_with (first
    | ((with_reducible apply own_box HM); exact rfl; (conv => lhs; whnf); exact rfl; exact rfl; (first | (clear tg1; intro w' g1 HM') | (clear tg2; intro w' g2 HM') | (clear tg3; intro w' g3 HM') | (clear tg4; intro w' g4 HM') | intro w' g' HM'); clear HM; have HM := HM'; clear HM'; all_goals skip) | ((with_reducible apply own_alloc HM); exact rfl; (first | (with_reducible exact zeroS)); exact rfl; (first | (clear tg1; intro w' g1 HM') | (clear tg2; intro w' g2 HM') | (clear tg3; intro w' g3 HM') | (clear tg4; intro w' g4 HM') | intro w' g' HM'); clear HM; have HM := HM'; clear HM'; all_goals skip) | ((with_reducible apply own_cell HM); exact rfl; exact rfl; (first | (with_reducible exact oneInt) | (with_reducible exact oneBool) | (with_reducible exact oneU8) | (with_reducible exact oneU16)); (first | with_reducible exact .z | with_reducible exact .s .z | with_reducible exact .s (.s .z) | with_reducible exact .s (.s (.s .z)) | with_reducible exact .s (.s (.s (.s .z))) | with_reducible exact .s (.s (.s (.s (.s .z))))); (focus repeat' (first | with_reducible exact .z | with_reducible apply Drop.s)); exact rfl; all_goals skip) | ((with_reducible apply own_store HM); exact rfl; exact rfl; (conv => lhs; whnf); exact rfl; (first | with_reducible exact .z | with_reducible exact .s .z | with_reducible exact .s (.s .z) | with_reducible exact .s (.s (.s .z)) | with_reducible exact .s (.s (.s (.s .z))) | with_reducible exact .s (.s (.s (.s (.s .z))))); (focus repeat' (first | with_reducible exact .z | with_reducible apply Over.p | with_reducible apply Over.s)); (first | with_reducible exact .z | with_reducible exact .s .z | with_reducible exact .s (.s .z) | with_reducible exact .s (.s (.s .z)) | with_reducible exact .s (.s (.s (.s .z))) | with_reducible exact .s (.s (.s (.s (.s .z))))); (first | (with_reducible exact (oneInt).size) | (with_reducible exact (oneBool).size) | (with_reducible exact (oneU8).size) | (with_reducible exact (oneU16).size)); exact rfl; exact rfl; exact rfl; exact rfl; intro w' HM'; clear HM; have HM := HM'; clear HM'; all_goals skip)
    | ((with_reducible apply own_row HM); exact rfl; exact rfl; exact aggS; (first | with_reducible exact .z | with_reducible exact .s .z | with_reducible exact .s (.s .z) | with_reducible exact .s (.s (.s .z)) | with_reducible exact .s (.s (.s (.s .z))) | with_reducible exact .s (.s (.s (.s (.s .z))))); exact rfl; exact Snd.cells_length _; all_goals skip) | ((with_reducible apply own_lay HM); exact rfl; exact rfl; exact rfl; (first | with_reducible exact .z | with_reducible exact .s .z | with_reducible exact .s (.s .z) | with_reducible exact .s (.s (.s .z)) | with_reducible exact .s (.s (.s (.s .z))) | with_reducible exact .s (.s (.s (.s (.s .z))))); (first | with_reducible exact .z | with_reducible exact .s .z | with_reducible exact .s (.s .z) | with_reducible exact .s (.s (.s .z)) | with_reducible exact .s (.s (.s (.s .z))) | with_reducible exact .s (.s (.s (.s (.s .z))))); exact aggS.size; (first | exact Snd.cells_length _ | exact rfl); (first | exact Snd.cells_length _ | exact rfl); (first | exact Snd.one _ | exact rfl); exact rfl; exact rfl; intro w' HM'; clear HM; have HM := HM'; clear HM'; all_goals skip)
    | (go_at_call 9; refine (psgAlive_any _ (Tab.own HT HM)).mono ?_; rintro e w' ⟨rfl, hb⟩; have HM' := Lib.hid (HM.out.call hb); clear HM hb; have HM := HM'; clear HM')
    | (go_at_call 11; refine (R1.out _).mono ?_; rintro e w' ⟨rfl, hb⟩; have HM' := Lib.hid (HM.out.call hb); clear HM hb; have HM := HM'; clear HM'))
  go_ret
  exact ⟨rfl, Own.fin HM⟩

set_option maxRecDepth 100000 in
set_option maxHeartbeats 3200000 in
theorem voices_in (S : Snd) (hS : S.Good) (w : World) (hT : Tab w) :
    Calls Tryd.prog 7 #[S.v] w fun e w' => e = .returned (.bool true) ∧ Below w.heap.size w w' := by
  have HT := Lib.hid hT
  have R1 : Hid (∀ w, Calls Tryd.prog 11 #[S.v] w fun e w' => e = .returned (.bool true) ∧ Below w.heap.size w w') := by rw [← hS.right]; exact pright_at S hS.fits
  have R2 := sample_at S hS.fits
  have F := hS.fits
  have z0 : (0 : Int) ≤ 15 := by decide
  have z1 : (15 : Int) < 256 := by decide
  have E0 := sample_at { S with q1 := 15, q2 := 15, q3 := 15 } ⟨F.m0, F.m1, F.x0, F.x1, F.a0, F.a1, z0, z1, z0, z1, z0, z1, F.l0, F.l1⟩
  have E1 := sample_at { S with q0 := 15, q2 := 15, q3 := 15 } ⟨F.m0, F.m1, F.x0, F.x1, z0, z1, F.b0, F.b1, z0, z1, z0, z1, F.l0, F.l1⟩
  have E2 := sample_at { S with q0 := 15, q1 := 15, q3 := 15 } ⟨F.m0, F.m1, F.x0, F.x1, z0, z1, z0, z1, F.d0, F.d1, z0, z1, F.l0, F.l1⟩
  have E3 := sample_at { S with q0 := 15, q1 := 15, q2 := 15 } ⟨F.m0, F.m1, F.x0, F.x1, z0, z1, z0, z1, z0, z1, F.e0, F.e1, F.l0, F.l1⟩
  have s0 : Snd.sample { S with q1 := 15, q2 := 15, q3 := 15 } = sayB S.t0.o S.q0 := by unfold Snd.sample; simp only [sayB_15]; omega
  have s1 : Snd.sample { S with q0 := 15, q2 := 15, q3 := 15 } = sayB S.t1.o S.q1 := by unfold Snd.sample; simp only [sayB_15]; omega
  have s2 : Snd.sample { S with q0 := 15, q1 := 15, q3 := 15 } = sayB S.t2.o S.q2 := by unfold Snd.sample; simp only [sayB_15]; omega
  have s3 : Snd.sample { S with q0 := 15, q1 := 15, q2 := 15 } = sayB S.n.out S.q3 := by unfold Snd.sample; simp only [sayB_15]; omega
  rw [s0] at E0
  rw [s1] at E1
  rw [s2] at E2
  rw [s3] at E3
  have b0 := sayB_bd S.t0.o S.q0
  have b1 := sayB_bd S.t1.o S.q1
  have b2 := sayB_bd S.t2.o S.q2
  have b3 := sayB_bd S.n.out S.q3
  have hs : S.sample = sayB S.t0.o S.q0 + sayB S.t1.o S.q1 + sayB S.t2.o S.q2 + sayB S.n.out S.q3 := rfl
  rw [hs] at R2
  clear hs s0 s1 s2 s3
  obtain ⟨x0, h0⟩ : ∃ y, y = sayB S.t0.o S.q0 := ⟨_, rfl⟩
  obtain ⟨x1, h1⟩ : ∃ y, y = sayB S.t1.o S.q1 := ⟨_, rfl⟩
  obtain ⟨x2, h2⟩ : ∃ y, y = sayB S.t2.o S.q2 := ⟨_, rfl⟩
  obtain ⟨x3, h3⟩ : ∃ y, y = sayB S.n.out S.q3 := ⟨_, rfl⟩
  rw [← h0, ← h1, ← h2, ← h3] at R2
  rw [← h0] at E0 b0
  rw [← h1] at E1 b1
  rw [← h2] at E2 b2
  rw [← h3] at E3 b3
  clear h0 h1 h2 h3 F
  have a0 := hS.a0
  have a1 := hS.a1
  have d0 := hS.b0
  have d1 := hS.b1
  have e0 := hS.d0
  have e1 := hS.d1
  have f0 := hS.e0
  have f1 := hS.e1
  clear hS hT
  obtain ⟨⟨p0, c0, o0⟩, ⟨p1, c1, o1⟩, ⟨p2, c2, o2⟩, ⟨m, k, h, x⟩, q0, q1, q2, q3, l⟩ := S
  simp only at a0 a1 d0 d1 e0 e1 f0 f1
  have H0 : Hid (∀ w, Tab w → Calls Tryd.prog 12 #[.agg #[.int .i64 p0, .int .i64 c0, .bool o0, .int .i64 p1, .int .i64 c1, .bool o1, .int .i64 p2, .int .i64 c2, .bool o2, .int .u8 m, .int .i64 k, .bool h, .int .u16 x, .int .u8 q0, .int .u8 15, .int .u8 15, .int .u8 15, .int .u8 l]] w fun e w' => e = .returned (.int .i64 x0) ∧ Below w.heap.size w w') := E0
  have H1 : Hid (∀ w, Tab w → Calls Tryd.prog 12 #[.agg #[.int .i64 p0, .int .i64 c0, .bool o0, .int .i64 p1, .int .i64 c1, .bool o1, .int .i64 p2, .int .i64 c2, .bool o2, .int .u8 m, .int .i64 k, .bool h, .int .u16 x, .int .u8 15, .int .u8 q1, .int .u8 15, .int .u8 15, .int .u8 l]] w fun e w' => e = .returned (.int .i64 x1) ∧ Below w.heap.size w w') := E1
  have H2 : Hid (∀ w, Tab w → Calls Tryd.prog 12 #[.agg #[.int .i64 p0, .int .i64 c0, .bool o0, .int .i64 p1, .int .i64 c1, .bool o1, .int .i64 p2, .int .i64 c2, .bool o2, .int .u8 m, .int .i64 k, .bool h, .int .u16 x, .int .u8 15, .int .u8 15, .int .u8 q2, .int .u8 15, .int .u8 l]] w fun e w' => e = .returned (.int .i64 x2) ∧ Below w.heap.size w w') := E2
  have H3 : Hid (∀ w, Tab w → Calls Tryd.prog 12 #[.agg #[.int .i64 p0, .int .i64 c0, .bool o0, .int .i64 p1, .int .i64 c1, .bool o1, .int .i64 p2, .int .i64 c2, .bool o2, .int .u8 m, .int .i64 k, .bool h, .int .u16 x, .int .u8 15, .int .u8 15, .int .u8 15, .int .u8 q3, .int .u8 l]] w fun e w' => e = .returned (.int .i64 x3) ∧ Below w.heap.size w w') := E3
  have HS : Hid (∀ w, Tab w → Calls Tryd.prog 12 #[.agg #[.int .i64 p0, .int .i64 c0, .bool o0, .int .i64 p1, .int .i64 c1, .bool o1, .int .i64 p2, .int .i64 c2, .bool o2, .int .u8 m, .int .i64 k, .bool h, .int .u16 x, .int .u8 q0, .int .u8 q1, .int .u8 q2, .int .u8 q3, .int .u8 l]] w fun e w' => e = .returned (.int .i64 (x0 + x1 + x2 + x3)) ∧ Below w.heap.size w w') := R2
  have HR1 : Hid (∀ w, Calls Tryd.prog 11 #[.agg #[.int .i64 p0, .int .i64 c0, .bool o0, .int .i64 p1, .int .i64 c1, .bool o1, .int .i64 p2, .int .i64 c2, .bool o2, .int .u8 m, .int .i64 k, .bool h, .int .u16 x, .int .u8 q0, .int .u8 q1, .int .u8 q2, .int .u8 q3, .int .u8 l]] w fun e w' => e = .returned (.bool true) ∧ Below w.heap.size w w') := R1.out
  clear E0 E1 E2 E3 R1 R2
  have HM := Lib.hid (Own.start w)
  have tg1 : Hid True := trivial
  show Calls Tryd.prog 7 #[.agg #[.int .i64 p0, .int .i64 c0, .bool o0, .int .i64 p1, .int .i64 c1, .bool o1, .int .i64 p2, .int .i64 c2, .bool o2, .int .u8 m, .int .i64 k, .bool h, .int .u16 x, .int .u8 q0, .int .u8 q1, .int .u8 q2, .int .u8 q3, .int .u8 l]] w _
  go_enter Tryd.func7, Tryd.ntmps7
  go_wp2_with (first
    | ((with_reducible apply own_box HM); exact rfl; (conv => lhs; whnf); exact rfl; exact rfl; (first | (clear tg1; intro w' g1 HM') | (clear tg2; intro w' g2 HM') | (clear tg3; intro w' g3 HM') | (clear tg4; intro w' g4 HM') | intro w' g' HM'); clear HM; have HM := HM'; clear HM'; all_goals skip) | ((with_reducible apply own_alloc HM); exact rfl; (first | (with_reducible exact zeroS)); exact rfl; (first | (clear tg1; intro w' g1 HM') | (clear tg2; intro w' g2 HM') | (clear tg3; intro w' g3 HM') | (clear tg4; intro w' g4 HM') | intro w' g' HM'); clear HM; have HM := HM'; clear HM'; all_goals skip) | ((with_reducible apply own_cell HM); exact rfl; exact rfl; (first | (with_reducible exact oneInt) | (with_reducible exact oneBool) | (with_reducible exact oneU8) | (with_reducible exact oneU16)); (first | with_reducible exact .z | with_reducible exact .s .z | with_reducible exact .s (.s .z) | with_reducible exact .s (.s (.s .z)) | with_reducible exact .s (.s (.s (.s .z))) | with_reducible exact .s (.s (.s (.s (.s .z))))); (focus repeat' (first | with_reducible exact .z | with_reducible apply Drop.s)); exact rfl; all_goals skip) | ((with_reducible apply own_load HM); exact rfl; exact rfl; (first | (with_reducible exact aggS) | (with_reducible exact aggT3) | (with_reducible exact aggT) | (with_reducible exact aggQ) | (with_reducible exact aggN)); (first | with_reducible exact .z | with_reducible exact .s .z | with_reducible exact .s (.s .z) | with_reducible exact .s (.s (.s .z)) | with_reducible exact .s (.s (.s (.s .z))) | with_reducible exact .s (.s (.s (.s (.s .z))))); (focus repeat' (first | with_reducible exact .z | with_reducible apply Drop.s)); (focus repeat' (first | with_reducible exact .z | with_reducible apply Take.s)); exact rfl; all_goals skip) | ((with_reducible apply own_store HM); exact rfl; exact rfl; (conv => lhs; whnf); exact rfl; (first | with_reducible exact .z | with_reducible exact .s .z | with_reducible exact .s (.s .z) | with_reducible exact .s (.s (.s .z)) | with_reducible exact .s (.s (.s (.s .z))) | with_reducible exact .s (.s (.s (.s (.s .z))))); (focus repeat' (first | with_reducible exact .z | with_reducible apply Over.p | with_reducible apply Over.s)); (first | with_reducible exact .z | with_reducible exact .s .z | with_reducible exact .s (.s .z) | with_reducible exact .s (.s (.s .z)) | with_reducible exact .s (.s (.s (.s .z))) | with_reducible exact .s (.s (.s (.s (.s .z))))); (first | (with_reducible exact (aggS).size) | (with_reducible exact (aggT3).size) | (with_reducible exact (aggT).size) | (with_reducible exact (aggQ).size) | (with_reducible exact (aggN).size) | (with_reducible exact (oneInt).size) | (with_reducible exact (oneBool).size) | (with_reducible exact (oneU8).size) | (with_reducible exact (oneU16).size)); exact rfl; exact rfl; exact rfl; exact rfl; intro w' HM'; clear HM; have HM := HM'; clear HM'; all_goals skip)
    | (go_at_call 9; refine (psgAlive_any _ (Tab.own HT HM)).mono ?_; rintro e w' ⟨rfl, hb⟩; have HM' := Lib.hid (HM.out.call hb); clear HM hb; have HM := HM'; clear HM')
    | (go_at_call 11; refine (HR1.out _).mono ?_; rintro e w' ⟨rfl, hb⟩; have HM' := Lib.hid (HM.out.call hb); clear HM hb; have HM := HM'; clear HM'))
  go_loopw [3, 4] (fun s i wr => ∃ (j : Nat) (C : Int), j ≤ 4 ∧ i = .int .i64 j ∧ s = .int .i64 C ∧ 0 ≤ C ∧ C ≤ 8191 * j ∧ Hid (C = sumV x0 x1 x2 x3 j) ∧ Hid (Own w wr [(g1, 30, [.int .i64 p0, .int .i64 c0, .bool o0, .int .i64 p1, .int .i64 c1, .bool o1, .int .i64 p2, .int .i64 c2, .bool o2, .int .u8 m, .int .i64 k, .bool h, .int .u16 x, .int .u8 q0, .int .u8 q1, .int .u8 q2, .int .u8 q3, .int .u8 l])])) (fun _ i _ => 4 - (intOf i).toNat)
  case atStart => exact ⟨0, 0, by omega, rfl, rfl, by omega, by omega, rfl, HM⟩
  case round =>
    clear HM
    obtain ⟨j, C, hj, rfl, rfl, C0, C1, HC, HM⟩ := hrel
    rcases (show j = 0 ∨ j = 1 ∨ j = 2 ∨ j = 3 ∨ j = 4 by omega) with rfl | rfl | rfl | rfl | rfl
    case' inl =>
      have tg2 : Hid True := trivial
      go_upto_region 13 with (first
        | ((with_reducible apply own_box HM); exact rfl; (conv => lhs; whnf); exact rfl; exact rfl; (first | (clear tg1; intro w' g1 HM') | (clear tg2; intro w' g2 HM') | (clear tg3; intro w' g3 HM') | (clear tg4; intro w' g4 HM') | intro w' g' HM'); clear HM; have HM := HM'; clear HM'; all_goals skip) | ((with_reducible apply own_alloc HM); exact rfl; (first | (with_reducible exact zeroS)); exact rfl; (first | (clear tg1; intro w' g1 HM') | (clear tg2; intro w' g2 HM') | (clear tg3; intro w' g3 HM') | (clear tg4; intro w' g4 HM') | intro w' g' HM'); clear HM; have HM := HM'; clear HM'; all_goals skip) | ((with_reducible apply own_cell HM); exact rfl; exact rfl; (first | (with_reducible exact oneInt) | (with_reducible exact oneBool) | (with_reducible exact oneU8) | (with_reducible exact oneU16)); (first | with_reducible exact .z | with_reducible exact .s .z | with_reducible exact .s (.s .z) | with_reducible exact .s (.s (.s .z)) | with_reducible exact .s (.s (.s (.s .z))) | with_reducible exact .s (.s (.s (.s (.s .z))))); (focus repeat' (first | with_reducible exact .z | with_reducible apply Drop.s)); exact rfl; all_goals skip) | ((with_reducible apply own_load HM); exact rfl; exact rfl; (first | (with_reducible exact aggS) | (with_reducible exact aggT3) | (with_reducible exact aggT) | (with_reducible exact aggQ) | (with_reducible exact aggN)); (first | with_reducible exact .z | with_reducible exact .s .z | with_reducible exact .s (.s .z) | with_reducible exact .s (.s (.s .z)) | with_reducible exact .s (.s (.s (.s .z))) | with_reducible exact .s (.s (.s (.s (.s .z))))); (focus repeat' (first | with_reducible exact .z | with_reducible apply Drop.s)); (focus repeat' (first | with_reducible exact .z | with_reducible apply Take.s)); exact rfl; all_goals skip) | ((with_reducible apply own_store HM); exact rfl; exact rfl; (conv => lhs; whnf); exact rfl; (first | with_reducible exact .z | with_reducible exact .s .z | with_reducible exact .s (.s .z) | with_reducible exact .s (.s (.s .z)) | with_reducible exact .s (.s (.s (.s .z))) | with_reducible exact .s (.s (.s (.s (.s .z))))); (focus repeat' (first | with_reducible exact .z | with_reducible apply Over.p | with_reducible apply Over.s)); (first | with_reducible exact .z | with_reducible exact .s .z | with_reducible exact .s (.s .z) | with_reducible exact .s (.s (.s .z)) | with_reducible exact .s (.s (.s (.s .z))) | with_reducible exact .s (.s (.s (.s (.s .z))))); (first | (with_reducible exact (aggS).size) | (with_reducible exact (aggT3).size) | (with_reducible exact (aggT).size) | (with_reducible exact (aggQ).size) | (with_reducible exact (aggN).size) | (with_reducible exact (oneInt).size) | (with_reducible exact (oneBool).size) | (with_reducible exact (oneU8).size) | (with_reducible exact (oneU16).size)); exact rfl; exact rfl; exact rfl; exact rfl; intro w' HM'; clear HM; have HM := HM'; clear HM'; all_goals skip)
        | (go_at_call 12; refine (H0.out _ (Tab.own HT HM)).mono ?_; rintro e w' ⟨rfl, hb⟩; have HM' := Lib.hid (HM.out.call hb); clear HM hb; have HM := HM'; clear HM'))
      have hq : ((q0 < 15) = True ∧ ∃ A B : Int, Hid (volOf q0 = A) ∧ Hid (volOf (q0 + 1) = B) ∧ (A ≤ B) = False) ∨ (q0 < 15) = False := by
        by_cases hh : q0 < 15
        · left; exact ⟨eq_true hh, _, _, rfl, rfl, eq_false (by have := vol_less q0 (by omega) hh; omega)⟩
        · right; exact eq_false hh
      rcases hq with ⟨hq, A, B, HA, HB, hAB⟩ | hq
      case' inl =>
        have hw8 : q0 + 1 < 256 := by omega
        (refine own_region HM (by kernel_rfl) (by kernel_rfl) ?_; (try simp only [Act.put, List.setIfInBounds_toArray, List.set_cons_zero, List.set_cons_succ]); repeat ((fail_if_success (with_reducible refine wpQuiet_nil ?_)); first | go_big_quiet_skip | (go_big_quiet_want; first | ((with_reducible apply quiet_cell); exact rfl; (first | (with_reducible exact oneU8)); (first | with_reducible exact .z | with_reducible exact .s .z | with_reducible exact .s (.s .z) | with_reducible exact .s (.s (.s .z)) | with_reducible exact .s (.s (.s (.s .z))) | with_reducible exact .s (.s (.s (.s (.s .z))))); (focus repeat' (first | with_reducible exact .z | with_reducible apply Drop.s)); go_big_quiet_op; go_big_quiet_on) | ((with_reducible apply quiet_call); exact fun w => rfl; (focus (go_simp; all_goals with_reducible rfl)); (intro wq HQ; first | exact volume_q q0 (by omega) (by omega) A HA _ (Tab.own HT HQ) | exact volume_q (q0 + 1) (by omega) (by omega) B HB _ (Tab.own HT HQ)); go_big_quiet_op; go_big_quiet_on) | (go_big_quiet_op; go_big_quiet_on) | (go_big_quiet_op; refine ⟨_, fun _ _ => rfl, ?_⟩; go_big_quiet_on))))
      case' inr =>
        (refine own_region HM (by kernel_rfl) (by kernel_rfl) ?_; (try simp only [Act.put, List.setIfInBounds_toArray, List.set_cons_zero, List.set_cons_succ]); repeat ((fail_if_success (with_reducible refine wpQuiet_nil ?_)); first | go_big_quiet_skip | (go_big_quiet_want; first | ((with_reducible apply quiet_cell); exact rfl; (first | (with_reducible exact oneU8)); (first | with_reducible exact .z | with_reducible exact .s .z | with_reducible exact .s (.s .z) | with_reducible exact .s (.s (.s .z)) | with_reducible exact .s (.s (.s (.s .z))) | with_reducible exact .s (.s (.s (.s (.s .z))))); (focus repeat' (first | with_reducible exact .z | with_reducible apply Drop.s)); go_big_quiet_op; go_big_quiet_on) | ((with_reducible apply quiet_call); exact fun w => rfl; (focus (go_simp; all_goals with_reducible rfl)); (intro wq HQ; first | fail); go_big_quiet_op; go_big_quiet_on) | (go_big_quiet_op; go_big_quiet_on) | (go_big_quiet_op; refine ⟨_, fun _ _ => rfl, ?_⟩; go_big_quiet_on))))
      all_goals
        refine wpQuiet_nil ?_
        intro w' HM'
        clear HM
        have HM := HM'
        clear HM'
        go_wp2_with fail
        go_roundw
        case rel => exact ⟨1, C + x0, by omega, rfl, rfl, by omega, by omega, by (show _ = _; have hc := HC.out; simp only [sumV] at hc ⊢; omega), Lib.hid HM.out.forget⟩
        case measure => simp [intOf]
    case' inr.inl =>
      have tg2 : Hid True := trivial
      go_upto_region 13 with (first
        | ((with_reducible apply own_box HM); exact rfl; (conv => lhs; whnf); exact rfl; exact rfl; (first | (clear tg1; intro w' g1 HM') | (clear tg2; intro w' g2 HM') | (clear tg3; intro w' g3 HM') | (clear tg4; intro w' g4 HM') | intro w' g' HM'); clear HM; have HM := HM'; clear HM'; all_goals skip) | ((with_reducible apply own_alloc HM); exact rfl; (first | (with_reducible exact zeroS)); exact rfl; (first | (clear tg1; intro w' g1 HM') | (clear tg2; intro w' g2 HM') | (clear tg3; intro w' g3 HM') | (clear tg4; intro w' g4 HM') | intro w' g' HM'); clear HM; have HM := HM'; clear HM'; all_goals skip) | ((with_reducible apply own_cell HM); exact rfl; exact rfl; (first | (with_reducible exact oneInt) | (with_reducible exact oneBool) | (with_reducible exact oneU8) | (with_reducible exact oneU16)); (first | with_reducible exact .z | with_reducible exact .s .z | with_reducible exact .s (.s .z) | with_reducible exact .s (.s (.s .z)) | with_reducible exact .s (.s (.s (.s .z))) | with_reducible exact .s (.s (.s (.s (.s .z))))); (focus repeat' (first | with_reducible exact .z | with_reducible apply Drop.s)); exact rfl; all_goals skip) | ((with_reducible apply own_load HM); exact rfl; exact rfl; (first | (with_reducible exact aggS) | (with_reducible exact aggT3) | (with_reducible exact aggT) | (with_reducible exact aggQ) | (with_reducible exact aggN)); (first | with_reducible exact .z | with_reducible exact .s .z | with_reducible exact .s (.s .z) | with_reducible exact .s (.s (.s .z)) | with_reducible exact .s (.s (.s (.s .z))) | with_reducible exact .s (.s (.s (.s (.s .z))))); (focus repeat' (first | with_reducible exact .z | with_reducible apply Drop.s)); (focus repeat' (first | with_reducible exact .z | with_reducible apply Take.s)); exact rfl; all_goals skip) | ((with_reducible apply own_store HM); exact rfl; exact rfl; (conv => lhs; whnf); exact rfl; (first | with_reducible exact .z | with_reducible exact .s .z | with_reducible exact .s (.s .z) | with_reducible exact .s (.s (.s .z)) | with_reducible exact .s (.s (.s (.s .z))) | with_reducible exact .s (.s (.s (.s (.s .z))))); (focus repeat' (first | with_reducible exact .z | with_reducible apply Over.p | with_reducible apply Over.s)); (first | with_reducible exact .z | with_reducible exact .s .z | with_reducible exact .s (.s .z) | with_reducible exact .s (.s (.s .z)) | with_reducible exact .s (.s (.s (.s .z))) | with_reducible exact .s (.s (.s (.s (.s .z))))); (first | (with_reducible exact (aggS).size) | (with_reducible exact (aggT3).size) | (with_reducible exact (aggT).size) | (with_reducible exact (aggQ).size) | (with_reducible exact (aggN).size) | (with_reducible exact (oneInt).size) | (with_reducible exact (oneBool).size) | (with_reducible exact (oneU8).size) | (with_reducible exact (oneU16).size)); exact rfl; exact rfl; exact rfl; exact rfl; intro w' HM'; clear HM; have HM := HM'; clear HM'; all_goals skip)
        | (go_at_call 12; refine (H1.out _ (Tab.own HT HM)).mono ?_; rintro e w' ⟨rfl, hb⟩; have HM' := Lib.hid (HM.out.call hb); clear HM hb; have HM := HM'; clear HM'))
      have hq : ((q1 < 15) = True ∧ ∃ A B : Int, Hid (volOf q1 = A) ∧ Hid (volOf (q1 + 1) = B) ∧ (A ≤ B) = False) ∨ (q1 < 15) = False := by
        by_cases hh : q1 < 15
        · left; exact ⟨eq_true hh, _, _, rfl, rfl, eq_false (by have := vol_less q1 (by omega) hh; omega)⟩
        · right; exact eq_false hh
      rcases hq with ⟨hq, A, B, HA, HB, hAB⟩ | hq
      case' inl =>
        have hw8 : q1 + 1 < 256 := by omega
        (refine own_region HM (by kernel_rfl) (by kernel_rfl) ?_; (try simp only [Act.put, List.setIfInBounds_toArray, List.set_cons_zero, List.set_cons_succ]); repeat ((fail_if_success (with_reducible refine wpQuiet_nil ?_)); first | go_big_quiet_skip | (go_big_quiet_want; first | ((with_reducible apply quiet_cell); exact rfl; (first | (with_reducible exact oneU8)); (first | with_reducible exact .z | with_reducible exact .s .z | with_reducible exact .s (.s .z) | with_reducible exact .s (.s (.s .z)) | with_reducible exact .s (.s (.s (.s .z))) | with_reducible exact .s (.s (.s (.s (.s .z))))); (focus repeat' (first | with_reducible exact .z | with_reducible apply Drop.s)); go_big_quiet_op; go_big_quiet_on) | ((with_reducible apply quiet_call); exact fun w => rfl; (focus (go_simp; all_goals with_reducible rfl)); (intro wq HQ; first | exact volume_q q1 (by omega) (by omega) A HA _ (Tab.own HT HQ) | exact volume_q (q1 + 1) (by omega) (by omega) B HB _ (Tab.own HT HQ)); go_big_quiet_op; go_big_quiet_on) | (go_big_quiet_op; go_big_quiet_on) | (go_big_quiet_op; refine ⟨_, fun _ _ => rfl, ?_⟩; go_big_quiet_on))))
      case' inr =>
        (refine own_region HM (by kernel_rfl) (by kernel_rfl) ?_; (try simp only [Act.put, List.setIfInBounds_toArray, List.set_cons_zero, List.set_cons_succ]); repeat ((fail_if_success (with_reducible refine wpQuiet_nil ?_)); first | go_big_quiet_skip | (go_big_quiet_want; first | ((with_reducible apply quiet_cell); exact rfl; (first | (with_reducible exact oneU8)); (first | with_reducible exact .z | with_reducible exact .s .z | with_reducible exact .s (.s .z) | with_reducible exact .s (.s (.s .z)) | with_reducible exact .s (.s (.s (.s .z))) | with_reducible exact .s (.s (.s (.s (.s .z))))); (focus repeat' (first | with_reducible exact .z | with_reducible apply Drop.s)); go_big_quiet_op; go_big_quiet_on) | ((with_reducible apply quiet_call); exact fun w => rfl; (focus (go_simp; all_goals with_reducible rfl)); (intro wq HQ; first | fail); go_big_quiet_op; go_big_quiet_on) | (go_big_quiet_op; go_big_quiet_on) | (go_big_quiet_op; refine ⟨_, fun _ _ => rfl, ?_⟩; go_big_quiet_on))))
      all_goals
        refine wpQuiet_nil ?_
        intro w' HM'
        clear HM
        have HM := HM'
        clear HM'
        go_wp2_with fail
        go_roundw
        case rel => exact ⟨2, C + x1, by omega, rfl, rfl, by omega, by omega, by (show _ = _; have hc := HC.out; simp only [sumV] at hc ⊢; omega), Lib.hid HM.out.forget⟩
        case measure => simp [intOf]
    case' inr.inr.inl =>
      have tg2 : Hid True := trivial
      go_upto_region 13 with (first
        | ((with_reducible apply own_box HM); exact rfl; (conv => lhs; whnf); exact rfl; exact rfl; (first | (clear tg1; intro w' g1 HM') | (clear tg2; intro w' g2 HM') | (clear tg3; intro w' g3 HM') | (clear tg4; intro w' g4 HM') | intro w' g' HM'); clear HM; have HM := HM'; clear HM'; all_goals skip) | ((with_reducible apply own_alloc HM); exact rfl; (first | (with_reducible exact zeroS)); exact rfl; (first | (clear tg1; intro w' g1 HM') | (clear tg2; intro w' g2 HM') | (clear tg3; intro w' g3 HM') | (clear tg4; intro w' g4 HM') | intro w' g' HM'); clear HM; have HM := HM'; clear HM'; all_goals skip) | ((with_reducible apply own_cell HM); exact rfl; exact rfl; (first | (with_reducible exact oneInt) | (with_reducible exact oneBool) | (with_reducible exact oneU8) | (with_reducible exact oneU16)); (first | with_reducible exact .z | with_reducible exact .s .z | with_reducible exact .s (.s .z) | with_reducible exact .s (.s (.s .z)) | with_reducible exact .s (.s (.s (.s .z))) | with_reducible exact .s (.s (.s (.s (.s .z))))); (focus repeat' (first | with_reducible exact .z | with_reducible apply Drop.s)); exact rfl; all_goals skip) | ((with_reducible apply own_load HM); exact rfl; exact rfl; (first | (with_reducible exact aggS) | (with_reducible exact aggT3) | (with_reducible exact aggT) | (with_reducible exact aggQ) | (with_reducible exact aggN)); (first | with_reducible exact .z | with_reducible exact .s .z | with_reducible exact .s (.s .z) | with_reducible exact .s (.s (.s .z)) | with_reducible exact .s (.s (.s (.s .z))) | with_reducible exact .s (.s (.s (.s (.s .z))))); (focus repeat' (first | with_reducible exact .z | with_reducible apply Drop.s)); (focus repeat' (first | with_reducible exact .z | with_reducible apply Take.s)); exact rfl; all_goals skip) | ((with_reducible apply own_store HM); exact rfl; exact rfl; (conv => lhs; whnf); exact rfl; (first | with_reducible exact .z | with_reducible exact .s .z | with_reducible exact .s (.s .z) | with_reducible exact .s (.s (.s .z)) | with_reducible exact .s (.s (.s (.s .z))) | with_reducible exact .s (.s (.s (.s (.s .z))))); (focus repeat' (first | with_reducible exact .z | with_reducible apply Over.p | with_reducible apply Over.s)); (first | with_reducible exact .z | with_reducible exact .s .z | with_reducible exact .s (.s .z) | with_reducible exact .s (.s (.s .z)) | with_reducible exact .s (.s (.s (.s .z))) | with_reducible exact .s (.s (.s (.s (.s .z))))); (first | (with_reducible exact (aggS).size) | (with_reducible exact (aggT3).size) | (with_reducible exact (aggT).size) | (with_reducible exact (aggQ).size) | (with_reducible exact (aggN).size) | (with_reducible exact (oneInt).size) | (with_reducible exact (oneBool).size) | (with_reducible exact (oneU8).size) | (with_reducible exact (oneU16).size)); exact rfl; exact rfl; exact rfl; exact rfl; intro w' HM'; clear HM; have HM := HM'; clear HM'; all_goals skip)
        | (go_at_call 12; refine (H2.out _ (Tab.own HT HM)).mono ?_; rintro e w' ⟨rfl, hb⟩; have HM' := Lib.hid (HM.out.call hb); clear HM hb; have HM := HM'; clear HM'))
      have hq : ((q2 < 15) = True ∧ ∃ A B : Int, Hid (volOf q2 = A) ∧ Hid (volOf (q2 + 1) = B) ∧ (A ≤ B) = False) ∨ (q2 < 15) = False := by
        by_cases hh : q2 < 15
        · left; exact ⟨eq_true hh, _, _, rfl, rfl, eq_false (by have := vol_less q2 (by omega) hh; omega)⟩
        · right; exact eq_false hh
      rcases hq with ⟨hq, A, B, HA, HB, hAB⟩ | hq
      case' inl =>
        have hw8 : q2 + 1 < 256 := by omega
        (refine own_region HM (by kernel_rfl) (by kernel_rfl) ?_; (try simp only [Act.put, List.setIfInBounds_toArray, List.set_cons_zero, List.set_cons_succ]); repeat ((fail_if_success (with_reducible refine wpQuiet_nil ?_)); first | go_big_quiet_skip | (go_big_quiet_want; first | ((with_reducible apply quiet_cell); exact rfl; (first | (with_reducible exact oneU8)); (first | with_reducible exact .z | with_reducible exact .s .z | with_reducible exact .s (.s .z) | with_reducible exact .s (.s (.s .z)) | with_reducible exact .s (.s (.s (.s .z))) | with_reducible exact .s (.s (.s (.s (.s .z))))); (focus repeat' (first | with_reducible exact .z | with_reducible apply Drop.s)); go_big_quiet_op; go_big_quiet_on) | ((with_reducible apply quiet_call); exact fun w => rfl; (focus (go_simp; all_goals with_reducible rfl)); (intro wq HQ; first | exact volume_q q2 (by omega) (by omega) A HA _ (Tab.own HT HQ) | exact volume_q (q2 + 1) (by omega) (by omega) B HB _ (Tab.own HT HQ)); go_big_quiet_op; go_big_quiet_on) | (go_big_quiet_op; go_big_quiet_on) | (go_big_quiet_op; refine ⟨_, fun _ _ => rfl, ?_⟩; go_big_quiet_on))))
      case' inr =>
        (refine own_region HM (by kernel_rfl) (by kernel_rfl) ?_; (try simp only [Act.put, List.setIfInBounds_toArray, List.set_cons_zero, List.set_cons_succ]); repeat ((fail_if_success (with_reducible refine wpQuiet_nil ?_)); first | go_big_quiet_skip | (go_big_quiet_want; first | ((with_reducible apply quiet_cell); exact rfl; (first | (with_reducible exact oneU8)); (first | with_reducible exact .z | with_reducible exact .s .z | with_reducible exact .s (.s .z) | with_reducible exact .s (.s (.s .z)) | with_reducible exact .s (.s (.s (.s .z))) | with_reducible exact .s (.s (.s (.s (.s .z))))); (focus repeat' (first | with_reducible exact .z | with_reducible apply Drop.s)); go_big_quiet_op; go_big_quiet_on) | ((with_reducible apply quiet_call); exact fun w => rfl; (focus (go_simp; all_goals with_reducible rfl)); (intro wq HQ; first | fail); go_big_quiet_op; go_big_quiet_on) | (go_big_quiet_op; go_big_quiet_on) | (go_big_quiet_op; refine ⟨_, fun _ _ => rfl, ?_⟩; go_big_quiet_on))))
      all_goals
        refine wpQuiet_nil ?_
        intro w' HM'
        clear HM
        have HM := HM'
        clear HM'
        go_wp2_with fail
        go_roundw
        case rel => exact ⟨3, C + x2, by omega, rfl, rfl, by omega, by omega, by (show _ = _; have hc := HC.out; simp only [sumV] at hc ⊢; omega), Lib.hid HM.out.forget⟩
        case measure => simp [intOf]
    case' inr.inr.inr.inl =>
      have tg2 : Hid True := trivial
      go_upto_region 13 with (first
        | ((with_reducible apply own_box HM); exact rfl; (conv => lhs; whnf); exact rfl; exact rfl; (first | (clear tg1; intro w' g1 HM') | (clear tg2; intro w' g2 HM') | (clear tg3; intro w' g3 HM') | (clear tg4; intro w' g4 HM') | intro w' g' HM'); clear HM; have HM := HM'; clear HM'; all_goals skip) | ((with_reducible apply own_alloc HM); exact rfl; (first | (with_reducible exact zeroS)); exact rfl; (first | (clear tg1; intro w' g1 HM') | (clear tg2; intro w' g2 HM') | (clear tg3; intro w' g3 HM') | (clear tg4; intro w' g4 HM') | intro w' g' HM'); clear HM; have HM := HM'; clear HM'; all_goals skip) | ((with_reducible apply own_cell HM); exact rfl; exact rfl; (first | (with_reducible exact oneInt) | (with_reducible exact oneBool) | (with_reducible exact oneU8) | (with_reducible exact oneU16)); (first | with_reducible exact .z | with_reducible exact .s .z | with_reducible exact .s (.s .z) | with_reducible exact .s (.s (.s .z)) | with_reducible exact .s (.s (.s (.s .z))) | with_reducible exact .s (.s (.s (.s (.s .z))))); (focus repeat' (first | with_reducible exact .z | with_reducible apply Drop.s)); exact rfl; all_goals skip) | ((with_reducible apply own_load HM); exact rfl; exact rfl; (first | (with_reducible exact aggS) | (with_reducible exact aggT3) | (with_reducible exact aggT) | (with_reducible exact aggQ) | (with_reducible exact aggN)); (first | with_reducible exact .z | with_reducible exact .s .z | with_reducible exact .s (.s .z) | with_reducible exact .s (.s (.s .z)) | with_reducible exact .s (.s (.s (.s .z))) | with_reducible exact .s (.s (.s (.s (.s .z))))); (focus repeat' (first | with_reducible exact .z | with_reducible apply Drop.s)); (focus repeat' (first | with_reducible exact .z | with_reducible apply Take.s)); exact rfl; all_goals skip) | ((with_reducible apply own_store HM); exact rfl; exact rfl; (conv => lhs; whnf); exact rfl; (first | with_reducible exact .z | with_reducible exact .s .z | with_reducible exact .s (.s .z) | with_reducible exact .s (.s (.s .z)) | with_reducible exact .s (.s (.s (.s .z))) | with_reducible exact .s (.s (.s (.s (.s .z))))); (focus repeat' (first | with_reducible exact .z | with_reducible apply Over.p | with_reducible apply Over.s)); (first | with_reducible exact .z | with_reducible exact .s .z | with_reducible exact .s (.s .z) | with_reducible exact .s (.s (.s .z)) | with_reducible exact .s (.s (.s (.s .z))) | with_reducible exact .s (.s (.s (.s (.s .z))))); (first | (with_reducible exact (aggS).size) | (with_reducible exact (aggT3).size) | (with_reducible exact (aggT).size) | (with_reducible exact (aggQ).size) | (with_reducible exact (aggN).size) | (with_reducible exact (oneInt).size) | (with_reducible exact (oneBool).size) | (with_reducible exact (oneU8).size) | (with_reducible exact (oneU16).size)); exact rfl; exact rfl; exact rfl; exact rfl; intro w' HM'; clear HM; have HM := HM'; clear HM'; all_goals skip)
        | (go_at_call 12; refine (H3.out _ (Tab.own HT HM)).mono ?_; rintro e w' ⟨rfl, hb⟩; have HM' := Lib.hid (HM.out.call hb); clear HM hb; have HM := HM'; clear HM'))
      have hq : ((q3 < 15) = True ∧ ∃ A B : Int, Hid (volOf q3 = A) ∧ Hid (volOf (q3 + 1) = B) ∧ (A ≤ B) = False) ∨ (q3 < 15) = False := by
        by_cases hh : q3 < 15
        · left; exact ⟨eq_true hh, _, _, rfl, rfl, eq_false (by have := vol_less q3 (by omega) hh; omega)⟩
        · right; exact eq_false hh
      rcases hq with ⟨hq, A, B, HA, HB, hAB⟩ | hq
      case' inl =>
        have hw8 : q3 + 1 < 256 := by omega
        (refine own_region HM (by kernel_rfl) (by kernel_rfl) ?_; (try simp only [Act.put, List.setIfInBounds_toArray, List.set_cons_zero, List.set_cons_succ]); repeat ((fail_if_success (with_reducible refine wpQuiet_nil ?_)); first | go_big_quiet_skip | (go_big_quiet_want; first | ((with_reducible apply quiet_cell); exact rfl; (first | (with_reducible exact oneU8)); (first | with_reducible exact .z | with_reducible exact .s .z | with_reducible exact .s (.s .z) | with_reducible exact .s (.s (.s .z)) | with_reducible exact .s (.s (.s (.s .z))) | with_reducible exact .s (.s (.s (.s (.s .z))))); (focus repeat' (first | with_reducible exact .z | with_reducible apply Drop.s)); go_big_quiet_op; go_big_quiet_on) | ((with_reducible apply quiet_call); exact fun w => rfl; (focus (go_simp; all_goals with_reducible rfl)); (intro wq HQ; first | exact volume_q q3 (by omega) (by omega) A HA _ (Tab.own HT HQ) | exact volume_q (q3 + 1) (by omega) (by omega) B HB _ (Tab.own HT HQ)); go_big_quiet_op; go_big_quiet_on) | (go_big_quiet_op; go_big_quiet_on) | (go_big_quiet_op; refine ⟨_, fun _ _ => rfl, ?_⟩; go_big_quiet_on))))
      case' inr =>
        (refine own_region HM (by kernel_rfl) (by kernel_rfl) ?_; (try simp only [Act.put, List.setIfInBounds_toArray, List.set_cons_zero, List.set_cons_succ]); repeat ((fail_if_success (with_reducible refine wpQuiet_nil ?_)); first | go_big_quiet_skip | (go_big_quiet_want; first | ((with_reducible apply quiet_cell); exact rfl; (first | (with_reducible exact oneU8)); (first | with_reducible exact .z | with_reducible exact .s .z | with_reducible exact .s (.s .z) | with_reducible exact .s (.s (.s .z)) | with_reducible exact .s (.s (.s (.s .z))) | with_reducible exact .s (.s (.s (.s (.s .z))))); (focus repeat' (first | with_reducible exact .z | with_reducible apply Drop.s)); go_big_quiet_op; go_big_quiet_on) | ((with_reducible apply quiet_call); exact fun w => rfl; (focus (go_simp; all_goals with_reducible rfl)); (intro wq HQ; first | fail); go_big_quiet_op; go_big_quiet_on) | (go_big_quiet_op; go_big_quiet_on) | (go_big_quiet_op; refine ⟨_, fun _ _ => rfl, ?_⟩; go_big_quiet_on))))
      all_goals
        refine wpQuiet_nil ?_
        intro w' HM'
        clear HM
        have HM := HM'
        clear HM'
        go_wp2_with fail
        go_roundw
        case rel => exact ⟨4, C + x3, by omega, rfl, rfl, by omega, by omega, by (show _ = _; have hc := HC.out; simp only [sumV] at hc ⊢; omega), Lib.hid HM.out.forget⟩
        case measure => simp [intOf]
    have hc := HC.out
    simp only [sumV] at hc
    have hce : (C == x0 + x1 + x2 + x3) = true := by simp [hc]
    clear hc HC
    go_wp2_with (first
      | ((with_reducible apply own_box HM); exact rfl; (conv => lhs; whnf); exact rfl; exact rfl; (first | (clear tg1; intro w' g1 HM') | (clear tg2; intro w' g2 HM') | (clear tg3; intro w' g3 HM') | (clear tg4; intro w' g4 HM') | intro w' g' HM'); clear HM; have HM := HM'; clear HM'; all_goals skip) | ((with_reducible apply own_alloc HM); exact rfl; (first | (with_reducible exact zeroS)); exact rfl; (first | (clear tg1; intro w' g1 HM') | (clear tg2; intro w' g2 HM') | (clear tg3; intro w' g3 HM') | (clear tg4; intro w' g4 HM') | intro w' g' HM'); clear HM; have HM := HM'; clear HM'; all_goals skip) | ((with_reducible apply own_cell HM); exact rfl; exact rfl; (first | (with_reducible exact oneInt) | (with_reducible exact oneBool) | (with_reducible exact oneU8) | (with_reducible exact oneU16)); (first | with_reducible exact .z | with_reducible exact .s .z | with_reducible exact .s (.s .z) | with_reducible exact .s (.s (.s .z)) | with_reducible exact .s (.s (.s (.s .z))) | with_reducible exact .s (.s (.s (.s (.s .z))))); (focus repeat' (first | with_reducible exact .z | with_reducible apply Drop.s)); exact rfl; all_goals skip) | ((with_reducible apply own_load HM); exact rfl; exact rfl; (first | (with_reducible exact aggS) | (with_reducible exact aggT3) | (with_reducible exact aggT) | (with_reducible exact aggQ) | (with_reducible exact aggN)); (first | with_reducible exact .z | with_reducible exact .s .z | with_reducible exact .s (.s .z) | with_reducible exact .s (.s (.s .z)) | with_reducible exact .s (.s (.s (.s .z))) | with_reducible exact .s (.s (.s (.s (.s .z))))); (focus repeat' (first | with_reducible exact .z | with_reducible apply Drop.s)); (focus repeat' (first | with_reducible exact .z | with_reducible apply Take.s)); exact rfl; all_goals skip) | ((with_reducible apply own_store HM); exact rfl; exact rfl; (conv => lhs; whnf); exact rfl; (first | with_reducible exact .z | with_reducible exact .s .z | with_reducible exact .s (.s .z) | with_reducible exact .s (.s (.s .z)) | with_reducible exact .s (.s (.s (.s .z))) | with_reducible exact .s (.s (.s (.s (.s .z))))); (focus repeat' (first | with_reducible exact .z | with_reducible apply Over.p | with_reducible apply Over.s)); (first | with_reducible exact .z | with_reducible exact .s .z | with_reducible exact .s (.s .z) | with_reducible exact .s (.s (.s .z)) | with_reducible exact .s (.s (.s (.s .z))) | with_reducible exact .s (.s (.s (.s (.s .z))))); (first | (with_reducible exact (aggS).size) | (with_reducible exact (aggT3).size) | (with_reducible exact (aggT).size) | (with_reducible exact (aggQ).size) | (with_reducible exact (aggN).size) | (with_reducible exact (oneInt).size) | (with_reducible exact (oneBool).size) | (with_reducible exact (oneU8).size) | (with_reducible exact (oneU16).size)); exact rfl; exact rfl; exact rfl; exact rfl; intro w' HM'; clear HM; have HM := HM'; clear HM'; all_goals skip)
      | (go_at_call 12; refine (HS.out _ (Tab.own HT HM)).mono ?_; rintro e w' ⟨rfl, hb⟩; have HM' := Lib.hid (HM.out.call hb); clear HM hb; have HM := HM'; clear HM'))
    go_ret
    exact ⟨rfl, Own.fin HM⟩

theorem voices_any (S : Snd) (hS : S.Fits) (w : World) (hT : Tab w) :
    Calls Tryd.prog 7 #[S.v] w fun e w' => e = .returned (.bool true) ∧ Below w.heap.size w w' := by
  rcases Bool.eq_false_or_eq_true S.right with h | h
  · exact voices_in S (hS.good h) w hT
  · exact voices_out S hS h w hT

end Go.Proofs.YtnkfelflpkbobaaDoor
