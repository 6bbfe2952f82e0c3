/-
  The document's Right of a sound, by one contract.
-/
import Derived.Test.YtnkfelflpkbobaaDoorPsgRight
namespace Go.Proofs.YtnkfelflpkbobaaDoor
open Go.RowKit

set_option maxRecDepth 100000 in
set_option maxHeartbeats 3200000 in
theorem prright_at (S : Snd) (hS : S.Fits) (w : World) :
    Calls Tryd.prog 14 #[S.v] w fun e w' => e = .returned (.bool S.right) ∧ Below w.heap.size w w' := by
  obtain ⟨r0, h0⟩ : ∃ r, tone.rightB S.t0.p S.t0.c = r := ⟨_, rfl⟩
  obtain ⟨r1, h1⟩ : ∃ r, tone.rightB S.t1.p S.t1.c = r := ⟨_, rfl⟩
  obtain ⟨r2, h2⟩ : ∃ r, tone.rightB S.t2.p S.t2.c = r := ⟨_, rfl⟩
  obtain ⟨n, h3⟩ : ∃ r, rightB S.n.m S.n.c S.n.x = r := ⟨_, rfl⟩
  obtain ⟨B, hB⟩ : ∃ B, S.right = B := ⟨_, rfl⟩
  have HR := Lib.hid (right_flat S r0 r1 r2 n h0 h1 h2 h3)
  rw [hB] at HR ⊢
  clear hB
  obtain ⟨⟨p0, c0, o0⟩, ⟨p1, c1, o1⟩, ⟨p2, c2, o2⟩, ⟨m, k, h, x⟩, q0, q1, q2, q3, l⟩ := S
  obtain ⟨L8, hL8⟩ : ∃ b, decide (l < 8) = b := ⟨_, rfl⟩
  replace HR : Hid (okQ (okT r0 r1 r2 n (decide (l < 8)) 3) (lt16 q0) (lt16 q1) (lt16 q2) (lt16 q3) 4 = B) := HR
  rw [hL8] at HR
  obtain ⟨LX, hLX⟩ : ∃ b, b = L8 := ⟨_, rfl⟩
  rw [← hLX] at HR
  have HLX := Lib.hid hLX
  clear hLX
  have H0 : Hid (tone.rightB p0 c0 = r0) := h0
  have H1 : Hid (tone.rightB p1 c1 = r1) := h1
  have H2 : Hid (tone.rightB p2 c2 = r2) := h2
  have H3 : Hid (rightB m k x = n) := h3
  have HF := Lib.hid hS
  clear hS h0 h1 h2 h3
  have HM := Lib.hid (Own.start w)
  have tg1 : Hid True := trivial
  have tg2 : Hid True := trivial
  show Calls Tryd.prog 14 #[.agg #[.int .i64 p0, .int .i64 c0, .bool o0, .int .i64 p1, .int .i64 c1, .bool o1, .int .i64 p2, .int .i64 c2, .bool o2, .int .u8 m, .int .i64 k, .bool h, .int .u16 x, .int .u8 q0, .int .u8 q1, .int .u8 q2, .int .u8 q3, .int .u8 l]] w _
  cases L8
  all_goals
    go_enter Tryd.func14, Tryd.ntmps14
    go_wp2_with (first
      | ((with_reducible apply own_box HM); exact rfl; (conv => lhs; whnf); exact rfl; exact rfl; (first | (clear tg1; intro w' g1 HM') | (clear tg2; intro w' g2 HM') | (clear tg3; intro w' g3 HM') | (clear tg4; intro w' g4 HM') | intro w' g' HM'); clear HM; have HM := HM'; clear HM'; all_goals skip) | ((with_reducible apply own_alloc HM); exact rfl; (first | (with_reducible exact zeroS)); exact rfl; (first | (clear tg1; intro w' g1 HM') | (clear tg2; intro w' g2 HM') | (clear tg3; intro w' g3 HM') | (clear tg4; intro w' g4 HM') | intro w' g' HM'); clear HM; have HM := HM'; clear HM'; all_goals skip) | ((with_reducible apply own_cell HM); exact rfl; exact rfl; (first | (with_reducible exact oneInt) | (with_reducible exact oneBool) | (with_reducible exact oneU8) | (with_reducible exact oneU16)); (first | with_reducible exact .z | with_reducible exact .s .z | with_reducible exact .s (.s .z) | with_reducible exact .s (.s (.s .z)) | with_reducible exact .s (.s (.s (.s .z))) | with_reducible exact .s (.s (.s (.s (.s .z))))); (focus repeat' (first | with_reducible exact .z | with_reducible apply Drop.s)); exact rfl; all_goals skip) | ((with_reducible apply own_load HM); exact rfl; exact rfl; (first | (with_reducible exact aggS) | (with_reducible exact aggT3) | (with_reducible exact aggT) | (with_reducible exact aggQ) | (with_reducible exact aggN)); (first | with_reducible exact .z | with_reducible exact .s .z | with_reducible exact .s (.s .z) | with_reducible exact .s (.s (.s .z)) | with_reducible exact .s (.s (.s (.s .z))) | with_reducible exact .s (.s (.s (.s (.s .z))))); (focus repeat' (first | with_reducible exact .z | with_reducible apply Drop.s)); (focus repeat' (first | with_reducible exact .z | with_reducible apply Take.s)); exact rfl; all_goals skip) | ((with_reducible apply own_store HM); exact rfl; exact rfl; (conv => lhs; whnf); exact rfl; (first | with_reducible exact .z | with_reducible exact .s .z | with_reducible exact .s (.s .z) | with_reducible exact .s (.s (.s .z)) | with_reducible exact .s (.s (.s (.s .z))) | with_reducible exact .s (.s (.s (.s (.s .z))))); (focus repeat' (first | with_reducible exact .z | with_reducible apply Over.p | with_reducible apply Over.s)); (first | with_reducible exact .z | with_reducible exact .s .z | with_reducible exact .s (.s .z) | with_reducible exact .s (.s (.s .z)) | with_reducible exact .s (.s (.s (.s .z))) | with_reducible exact .s (.s (.s (.s (.s .z))))); (first | (with_reducible exact (aggS).size) | (with_reducible exact (aggT3).size) | (with_reducible exact (aggT).size) | (with_reducible exact (aggQ).size) | (with_reducible exact (aggN).size) | (with_reducible exact (oneInt).size) | (with_reducible exact (oneBool).size) | (with_reducible exact (oneU8).size) | (with_reducible exact (oneU16).size)); exact rfl; exact rfl; exact rfl; exact rfl; intro w' HM'; clear HM; have HM := HM'; clear HM'; all_goals skip)
      | (go_at_call 26; refine (rright_at m k h x _ H3.out HF.out.m0 HF.out.x0 _).mono ?_; rintro e w' ⟨rfl, hb⟩; have HM' := Lib.hid (HM.out.call hb); clear HM hb; have HM := HM'; clear HM'))
    go_loopw [3, 18] (fun s i wr => ∃ j : Nat, j ≤ 3 ∧ i = .int .i64 j ∧ s = .bool (okT r0 r1 r2 n (LX) j) ∧ Hid (Own w wr [(g1, 30, [.int .i64 p0, .int .i64 c0, .bool o0, .int .i64 p1, .int .i64 c1, .bool o1, .int .i64 p2, .int .i64 c2, .bool o2, .int .u8 m, .int .i64 k, .bool h, .int .u16 x, .int .u8 q0, .int .u8 q1, .int .u8 q2, .int .u8 q3, .int .u8 l])])) (fun _ i _ => 3 - (intOf i).toNat)
    case atStart => exact ⟨0, by omega, rfl, by rw [HLX.out]; rfl, HM⟩
    case round =>
      clear HM
      obtain ⟨j, hj, rfl, rfl, HM⟩ := hrel
      obtain ⟨b, hb⟩ : ∃ b, b = okT r0 r1 r2 n (LX) j := ⟨_, rfl⟩
      rw [← hb]
      have HB := Lib.hid hb
      clear hb
      rcases (show j = 0 ∨ j = 1 ∨ j = 2 ∨ j = 3 by omega) with rfl | rfl | rfl | rfl
      case' inl | inr.inl | inr.inr.inl =>
        cases b
        all_goals
          go_wp2_with (first
            | ((with_reducible apply own_box HM); exact rfl; (conv => lhs; whnf); exact rfl; exact rfl; (first | (clear tg1; intro w' g1 HM') | (clear tg2; intro w' g2 HM') | (clear tg3; intro w' g3 HM') | (clear tg4; intro w' g4 HM') | intro w' g' HM'); clear HM; have HM := HM'; clear HM'; all_goals skip) | ((with_reducible apply own_alloc HM); exact rfl; (first | (with_reducible exact zeroS) | (with_reducible exact zeroT)); exact rfl; (first | (clear tg1; intro w' g1 HM') | (clear tg2; intro w' g2 HM') | (clear tg3; intro w' g3 HM') | (clear tg4; intro w' g4 HM') | intro w' g' HM'); clear HM; have HM := HM'; clear HM'; all_goals skip) | ((with_reducible apply own_cell HM); exact rfl; exact rfl; (first | (with_reducible exact oneInt) | (with_reducible exact oneBool) | (with_reducible exact oneU8) | (with_reducible exact oneU16)); (first | with_reducible exact .z | with_reducible exact .s .z | with_reducible exact .s (.s .z) | with_reducible exact .s (.s (.s .z)) | with_reducible exact .s (.s (.s (.s .z))) | with_reducible exact .s (.s (.s (.s (.s .z))))); (focus repeat' (first | with_reducible exact .z | with_reducible apply Drop.s)); exact rfl; all_goals skip) | ((with_reducible apply own_load HM); exact rfl; exact rfl; (first | (with_reducible exact aggS) | (with_reducible exact aggT3) | (with_reducible exact aggT) | (with_reducible exact aggQ) | (with_reducible exact aggN)); (first | with_reducible exact .z | with_reducible exact .s .z | with_reducible exact .s (.s .z) | with_reducible exact .s (.s (.s .z)) | with_reducible exact .s (.s (.s (.s .z))) | with_reducible exact .s (.s (.s (.s (.s .z))))); (focus repeat' (first | with_reducible exact .z | with_reducible apply Drop.s)); (focus repeat' (first | with_reducible exact .z | with_reducible apply Take.s)); exact rfl; all_goals skip) | ((with_reducible apply own_store HM); exact rfl; exact rfl; (conv => lhs; whnf); exact rfl; (first | with_reducible exact .z | with_reducible exact .s .z | with_reducible exact .s (.s .z) | with_reducible exact .s (.s (.s .z)) | with_reducible exact .s (.s (.s (.s .z))) | with_reducible exact .s (.s (.s (.s (.s .z))))); (focus repeat' (first | with_reducible exact .z | with_reducible apply Over.p | with_reducible apply Over.s)); (first | with_reducible exact .z | with_reducible exact .s .z | with_reducible exact .s (.s .z) | with_reducible exact .s (.s (.s .z)) | with_reducible exact .s (.s (.s (.s .z))) | with_reducible exact .s (.s (.s (.s (.s .z))))); (first | (with_reducible exact (aggS).size) | (with_reducible exact (aggT3).size) | (with_reducible exact (aggT).size) | (with_reducible exact (aggQ).size) | (with_reducible exact (aggN).size) | (with_reducible exact (oneInt).size) | (with_reducible exact (oneBool).size) | (with_reducible exact (oneU8).size) | (with_reducible exact (oneU16).size)); exact rfl; exact rfl; exact rfl; exact rfl; intro w' HM'; clear HM; have HM := HM'; clear HM'; all_goals skip)
            | ((with_reducible apply own_index); exact rfl; exact rfl; exact rfl; (first | exact idxT0 _ _ _ _ _ _ _ _ _ | exact idxT1 _ _ _ _ _ _ _ _ _ | exact idxT2 _ _ _ _ _ _ _ _ _ | exact idxQ0 _ _ _ _ | exact idxQ1 _ _ _ _ | exact idxQ2 _ _ _ _ | exact idxQ3 _ _ _ _); exact rfl; all_goals skip)
            | (go_at_call 27; refine (trright_at _ _ _ _ (by first | exact H0 | exact H1 | exact H2) _).mono ?_; rintro e w' ⟨rfl, hb⟩; have HM' := Lib.hid (HM.out.call hb); clear HM hb; have HM := HM'; clear HM'))
          go_roundw
          case rel =>
            have hb := HB.out
            first
              | refine ⟨1, by omega, rfl, ?_, Lib.hid HM.out.forget⟩
              | refine ⟨2, by omega, rfl, ?_, Lib.hid HM.out.forget⟩
              | refine ⟨3, by omega, rfl, ?_, Lib.hid HM.out.forget⟩
            simp only [okT] at hb ⊢
            simp [← hb]
          case measure => simp [intOf]
      go_wp2_with (first
        | ((with_reducible apply own_box HM); exact rfl; (conv => lhs; whnf); exact rfl; exact rfl; (first | (clear tg1; intro w' g1 HM') | (clear tg2; intro w' g2 HM') | (clear tg3; intro w' g3 HM') | (clear tg4; intro w' g4 HM') | intro w' g' HM'); clear HM; have HM := HM'; clear HM'; all_goals skip) | ((with_reducible apply own_alloc HM); exact rfl; (first | (with_reducible exact zeroS)); exact rfl; (first | (clear tg1; intro w' g1 HM') | (clear tg2; intro w' g2 HM') | (clear tg3; intro w' g3 HM') | (clear tg4; intro w' g4 HM') | intro w' g' HM'); clear HM; have HM := HM'; clear HM'; all_goals skip) | ((with_reducible apply own_cell HM); exact rfl; exact rfl; (first | (with_reducible exact oneInt) | (with_reducible exact oneBool) | (with_reducible exact oneU8) | (with_reducible exact oneU16)); (first | with_reducible exact .z | with_reducible exact .s .z | with_reducible exact .s (.s .z) | with_reducible exact .s (.s (.s .z)) | with_reducible exact .s (.s (.s (.s .z))) | with_reducible exact .s (.s (.s (.s (.s .z))))); (focus repeat' (first | with_reducible exact .z | with_reducible apply Drop.s)); exact rfl; all_goals skip) | ((with_reducible apply own_load HM); exact rfl; exact rfl; (first | (with_reducible exact aggS) | (with_reducible exact aggT3) | (with_reducible exact aggT) | (with_reducible exact aggQ) | (with_reducible exact aggN)); (first | with_reducible exact .z | with_reducible exact .s .z | with_reducible exact .s (.s .z) | with_reducible exact .s (.s (.s .z)) | with_reducible exact .s (.s (.s (.s .z))) | with_reducible exact .s (.s (.s (.s (.s .z))))); (focus repeat' (first | with_reducible exact .z | with_reducible apply Drop.s)); (focus repeat' (first | with_reducible exact .z | with_reducible apply Take.s)); exact rfl; all_goals skip) | ((with_reducible apply own_store HM); exact rfl; exact rfl; (conv => lhs; whnf); exact rfl; (first | with_reducible exact .z | with_reducible exact .s .z | with_reducible exact .s (.s .z) | with_reducible exact .s (.s (.s .z)) | with_reducible exact .s (.s (.s (.s .z))) | with_reducible exact .s (.s (.s (.s (.s .z))))); (focus repeat' (first | with_reducible exact .z | with_reducible apply Over.p | with_reducible apply Over.s)); (first | with_reducible exact .z | with_reducible exact .s .z | with_reducible exact .s (.s .z) | with_reducible exact .s (.s (.s .z)) | with_reducible exact .s (.s (.s (.s .z))) | with_reducible exact .s (.s (.s (.s (.s .z))))); (first | (with_reducible exact (aggS).size) | (with_reducible exact (aggT3).size) | (with_reducible exact (aggT).size) | (with_reducible exact (aggQ).size) | (with_reducible exact (aggN).size) | (with_reducible exact (oneInt).size) | (with_reducible exact (oneBool).size) | (with_reducible exact (oneU8).size) | (with_reducible exact (oneU16).size)); exact rfl; exact rfl; exact rfl; exact rfl; intro w' HM'; clear HM; have HM := HM'; clear HM'; all_goals skip))
      go_loopw [3, 29] (fun s i wr => ∃ j : Nat, j ≤ 4 ∧ i = .int .i64 j ∧ s = .bool (okQ b (lt16 q0) (lt16 q1) (lt16 q2) (lt16 q3) j) ∧ Hid (Own w wr [(g1, 30, [.int .i64 p0, .int .i64 c0, .bool o0, .int .i64 p1, .int .i64 c1, .bool o1, .int .i64 p2, .int .i64 c2, .bool o2, .int .u8 m, .int .i64 k, .bool h, .int .u16 x, .int .u8 q0, .int .u8 q1, .int .u8 q2, .int .u8 q3, .int .u8 l])])) (fun _ i _ => 4 - (intOf i).toNat)
      case atStart => exact ⟨0, by omega, rfl, rfl, HM⟩
      case round =>
        clear HM
        obtain ⟨j, hj, rfl, rfl, HM⟩ := hrel
        obtain ⟨d, hd⟩ : ∃ d, d = okQ b (lt16 q0) (lt16 q1) (lt16 q2) (lt16 q3) j := ⟨_, rfl⟩
        rw [← hd]
        have HD := Lib.hid hd
        clear hd
        rcases (show j = 0 ∨ j = 1 ∨ j = 2 ∨ j = 3 ∨ j = 4 by omega) with rfl | rfl | rfl | rfl | rfl
        case' inl | inr.inl | inr.inr.inl | inr.inr.inr.inl =>
          cases d
          all_goals
            go_wp2_with (first
              | ((with_reducible apply own_box HM); exact rfl; (conv => lhs; whnf); exact rfl; exact rfl; (first | (clear tg1; intro w' g1 HM') | (clear tg2; intro w' g2 HM') | (clear tg3; intro w' g3 HM') | (clear tg4; intro w' g4 HM') | intro w' g' HM'); clear HM; have HM := HM'; clear HM'; all_goals skip) | ((with_reducible apply own_alloc HM); exact rfl; (first | (with_reducible exact zeroS) | (with_reducible exact zeroT)); exact rfl; (first | (clear tg1; intro w' g1 HM') | (clear tg2; intro w' g2 HM') | (clear tg3; intro w' g3 HM') | (clear tg4; intro w' g4 HM') | intro w' g' HM'); clear HM; have HM := HM'; clear HM'; all_goals skip) | ((with_reducible apply own_cell HM); exact rfl; exact rfl; (first | (with_reducible exact oneInt) | (with_reducible exact oneBool) | (with_reducible exact oneU8) | (with_reducible exact oneU16)); (first | with_reducible exact .z | with_reducible exact .s .z | with_reducible exact .s (.s .z) | with_reducible exact .s (.s (.s .z)) | with_reducible exact .s (.s (.s (.s .z))) | with_reducible exact .s (.s (.s (.s (.s .z))))); (focus repeat' (first | with_reducible exact .z | with_reducible apply Drop.s)); exact rfl; all_goals skip) | ((with_reducible apply own_load HM); exact rfl; exact rfl; (first | (with_reducible exact aggS) | (with_reducible exact aggT3) | (with_reducible exact aggT) | (with_reducible exact aggQ) | (with_reducible exact aggN)); (first | with_reducible exact .z | with_reducible exact .s .z | with_reducible exact .s (.s .z) | with_reducible exact .s (.s (.s .z)) | with_reducible exact .s (.s (.s (.s .z))) | with_reducible exact .s (.s (.s (.s (.s .z))))); (focus repeat' (first | with_reducible exact .z | with_reducible apply Drop.s)); (focus repeat' (first | with_reducible exact .z | with_reducible apply Take.s)); exact rfl; all_goals skip) | ((with_reducible apply own_store HM); exact rfl; exact rfl; (conv => lhs; whnf); exact rfl; (first | with_reducible exact .z | with_reducible exact .s .z | with_reducible exact .s (.s .z) | with_reducible exact .s (.s (.s .z)) | with_reducible exact .s (.s (.s (.s .z))) | with_reducible exact .s (.s (.s (.s (.s .z))))); (focus repeat' (first | with_reducible exact .z | with_reducible apply Over.p | with_reducible apply Over.s)); (first | with_reducible exact .z | with_reducible exact .s .z | with_reducible exact .s (.s .z) | with_reducible exact .s (.s (.s .z)) | with_reducible exact .s (.s (.s (.s .z))) | with_reducible exact .s (.s (.s (.s (.s .z))))); (first | (with_reducible exact (aggS).size) | (with_reducible exact (aggT3).size) | (with_reducible exact (aggT).size) | (with_reducible exact (aggQ).size) | (with_reducible exact (aggN).size) | (with_reducible exact (oneInt).size) | (with_reducible exact (oneBool).size) | (with_reducible exact (oneU8).size) | (with_reducible exact (oneU16).size)); exact rfl; exact rfl; exact rfl; exact rfl; intro w' HM'; clear HM; have HM := HM'; clear HM'; all_goals skip)
              | ((with_reducible apply own_index); exact rfl; exact rfl; exact rfl; (first | exact idxT0 _ _ _ _ _ _ _ _ _ | exact idxT1 _ _ _ _ _ _ _ _ _ | exact idxT2 _ _ _ _ _ _ _ _ _ | exact idxQ0 _ _ _ _ | exact idxQ1 _ _ _ _ | exact idxQ2 _ _ _ _ | exact idxQ3 _ _ _ _); exact rfl; all_goals skip))
            go_roundw
            case rel =>
              first
                | refine ⟨1, by omega, rfl, ?_, HM⟩
                | refine ⟨2, by omega, rfl, ?_, HM⟩
                | refine ⟨3, by omega, rfl, ?_, HM⟩
                | refine ⟨4, by omega, rfl, ?_, HM⟩
              first
                | (show Value.bool _ = Value.bool (okQ b (lt16 q0) (lt16 q1) (lt16 q2) (lt16 q3) 0 && lt16 q0); rw [← HD.out]; simp [lt16]; done)
                | (show Value.bool _ = Value.bool (okQ b (lt16 q0) (lt16 q1) (lt16 q2) (lt16 q3) 1 && lt16 q1); rw [← HD.out]; simp [lt16]; done)
                | (show Value.bool _ = Value.bool (okQ b (lt16 q0) (lt16 q1) (lt16 q2) (lt16 q3) 2 && lt16 q2); rw [← HD.out]; simp [lt16]; done)
                | (show Value.bool _ = Value.bool (okQ b (lt16 q0) (lt16 q1) (lt16 q2) (lt16 q3) 3 && lt16 q3); rw [← HD.out]; simp [lt16]; done)
            case measure => simp [intOf]
        go_wp2_with fail
        go_ret
        refine ⟨?_, Own.fin HM⟩
        rw [← HR.out, HD.out, HB.out]
        rfl

end Go.Proofs.YtnkfelflpkbobaaDoor
