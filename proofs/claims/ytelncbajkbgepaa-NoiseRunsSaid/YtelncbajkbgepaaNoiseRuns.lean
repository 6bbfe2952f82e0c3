/-
  The law NoiseRuns returns true for any noise and any turns beside it, and writes nothing that was there.
-/
import Derived.Test.YtelncbajkbgepaaNoiseRunsOut
namespace Go.Proofs.Ytelncbajkbgepaa
open Go.RowKit

theorem next_right (m c : Int) (h : Bool) (x : Int) (t : Bool) (C : Int) (H : Bool) (X : Int) (hn : NextN m c h x t C H X) (_m0 : 0 ≤ m) (m1 : m < 8) (c0 : 0 ≤ c) (c1 : c ≤ 64) (x0 : 0 < x) (x1 : x < 65536) :
    0 ≤ C ∧ C ≤ 64 ∧ 0 < X ∧ X < 65536 ∧ rightB m C X = true := by
  obtain ⟨rfl, rfl, rfl⟩ := hn
  have a : 0 ≤ nextCt m c ∧ nextCt m c ≤ 64 := by unfold nextCt; (repeat' split) <;> omega
  have b : 0 < nextX m c h x t ∧ nextX m c h x t < 65536 := by
    unfold nextX
    split
    · have q := moveOf_bd x (whiteB m) (by omega) x1
      have z := moveOf_zero x (whiteB m) (by omega) x1
      omega
    · omega
  refine ⟨a.1, a.2, b.1, b.2, ?_⟩
  rw [rightB_iff]; omega

set_option maxRecDepth 100000 in
set_option maxHeartbeats 3200000 in
theorem runs_in (m c : Int) (h : Bool) (x : Int) (m0 : 0 ≤ m) (m1 : m < 8) (c0 : 0 ≤ c) (c1 : c ≤ 64) (x0 : 0 < x) (x1 : x < 65536) (a : Option Addr) (n cap : Nat) (hn : (n : Int) ≤ 3000) (B : Nat → Bool) (w : World) (hB : BoolsIn w a n B) :
    Calls Try.prog 4 #[.agg #[.int .u8 m, .int .i64 c, .bool h, .int .u16 x], .slice a n cap] w fun e w' => e = .returned (.bool true) ∧ Below w.heap.size w w' := by
  have HM := Lib.hid (Own.start w)
  have HR : Hid (rightB m c x = true) := by show _ = _; rw [rightB_iff]; omega
  have x00 : 0 ≤ x := by omega
  have tg1 : Hid True := trivial
  have tg2 : Hid True := trivial
  go_enter Try.func4, Try.ntmps4
  go_wp2_with (first
    | ((with_reducible apply own_box HM); exact rfl; (conv => lhs; whnf); exact rfl; exact rfl; (first | (clear tg1; intro w' g1 HM') | (clear tg2; intro w' g2 HM') | (clear tg3; intro w' g3 HM') | (clear tg4; intro w' g4 HM') | intro w' g' HM'); clear HM; have HM := HM'; clear HM'; all_goals skip) | ((with_reducible apply own_alloc HM); exact rfl; (first | (with_reducible exact zeroN)); exact rfl; (first | (clear tg1; intro w' g1 HM') | (clear tg2; intro w' g2 HM') | (clear tg3; intro w' g3 HM') | (clear tg4; intro w' g4 HM') | intro w' g' HM'); clear HM; have HM := HM'; clear HM'; all_goals skip) | ((with_reducible apply own_cell HM); exact rfl; exact rfl; (first | (with_reducible exact oneInt) | (with_reducible exact oneBool) | (with_reducible exact oneU8) | (with_reducible exact oneU16)); (first | with_reducible exact .z | with_reducible exact .s .z | with_reducible exact .s (.s .z) | with_reducible exact .s (.s (.s .z)) | with_reducible exact .s (.s (.s (.s .z))) | with_reducible exact .s (.s (.s (.s (.s .z))))); (focus repeat' (first | with_reducible exact .z | with_reducible apply Drop.s)); exact rfl; all_goals skip) | ((with_reducible apply own_load HM); exact rfl; exact rfl; (first | (with_reducible exact aggN)); (first | with_reducible exact .z | with_reducible exact .s .z | with_reducible exact .s (.s .z) | with_reducible exact .s (.s (.s .z)) | with_reducible exact .s (.s (.s (.s .z))) | with_reducible exact .s (.s (.s (.s (.s .z))))); (focus repeat' (first | with_reducible exact .z | with_reducible apply Drop.s)); (focus repeat' (first | with_reducible exact .z | with_reducible apply Take.s)); exact rfl; all_goals skip) | ((with_reducible apply own_store HM); exact rfl; exact rfl; (conv => lhs; whnf); exact rfl; (first | with_reducible exact .z | with_reducible exact .s .z | with_reducible exact .s (.s .z) | with_reducible exact .s (.s (.s .z)) | with_reducible exact .s (.s (.s (.s .z))) | with_reducible exact .s (.s (.s (.s (.s .z))))); (focus repeat' (first | with_reducible exact .z | with_reducible apply Over.p | with_reducible apply Over.s)); (first | with_reducible exact .z | with_reducible exact .s .z | with_reducible exact .s (.s .z) | with_reducible exact .s (.s (.s .z)) | with_reducible exact .s (.s (.s (.s .z))) | with_reducible exact .s (.s (.s (.s (.s .z))))); (first | (with_reducible exact (aggN).size) | (with_reducible exact (oneInt).size) | (with_reducible exact (oneBool).size) | (with_reducible exact (oneU8).size) | (with_reducible exact (oneU16).size)); exact rfl; exact rfl; exact rfl; exact rfl; intro w' HM'; clear HM; have HM := HM'; clear HM'; all_goals skip)
    | (go_at_call 9; refine (noiseAlive_any _).mono ?_; rintro e w1 ⟨rfl, rfl⟩))
  go_cut [14] from 10 to 14 (fun s14 wx => s14 = .bool false ∧ Hid (Own w wx [(g1, 24, [.int .u8 m, .int .i64 c, .bool h, .int .u16 x])]))
  case first =>
    have HM' := Lib.hid HM.out.drew
    clear HM
    have HM := HM'
    clear HM'
    obtain ⟨e0, e1, e2, e3⟩ := noise_cells (HM.out.at_ .z)
    go_region_with (first
      | (go_at_call 10; refine (right_at m c h x _ HR.out m0 x00 _).mono ?_; rintro e w2 ⟨rfl, hb⟩; have HM' := Lib.hid (HM.out.call hb); clear HM hb e0 e1 e2 e3; have HM := HM'; clear HM'; obtain ⟨e0, e1, e2, e3⟩ := noise_cells (HM.out.at_ .z))
      | (go_at_call 13; refine (rright_at m c h x _ HR.out m0 x00 _).mono ?_; rintro e w2 ⟨rfl, hb⟩; have HM' := Lib.hid (HM.out.call hb); clear HM hb e0 e1 e2 e3; have HM := HM'; clear HM'; obtain ⟨e0, e1, e2, e3⟩ := noise_cells (HM.out.at_ .z)))
    all_goals (go_wp2_with fail; go_meet; exact ⟨by simp, HM⟩)
  case rest =>
    clear HM
    obtain ⟨rfl, HM⟩ := hcut
    go_wp2_with (first
      | ((with_reducible apply own_box HM); exact rfl; (conv => lhs; whnf); exact rfl; exact rfl; (first | (clear tg1; intro w' g1 HM') | (clear tg2; intro w' g2 HM') | (clear tg3; intro w' g3 HM') | (clear tg4; intro w' g4 HM') | intro w' g' HM'); clear HM; have HM := HM'; clear HM'; all_goals skip) | ((with_reducible apply own_alloc HM); exact rfl; (first | (with_reducible exact zeroN)); exact rfl; (first | (clear tg1; intro w' g1 HM') | (clear tg2; intro w' g2 HM') | (clear tg3; intro w' g3 HM') | (clear tg4; intro w' g4 HM') | intro w' g' HM'); clear HM; have HM := HM'; clear HM'; all_goals skip) | ((with_reducible apply own_cell HM); exact rfl; exact rfl; (first | (with_reducible exact oneInt) | (with_reducible exact oneBool) | (with_reducible exact oneU8) | (with_reducible exact oneU16)); (first | with_reducible exact .z | with_reducible exact .s .z | with_reducible exact .s (.s .z) | with_reducible exact .s (.s (.s .z)) | with_reducible exact .s (.s (.s (.s .z))) | with_reducible exact .s (.s (.s (.s (.s .z))))); (focus repeat' (first | with_reducible exact .z | with_reducible apply Drop.s)); exact rfl; all_goals skip) | ((with_reducible apply own_load HM); exact rfl; exact rfl; (first | (with_reducible exact aggN)); (first | with_reducible exact .z | with_reducible exact .s .z | with_reducible exact .s (.s .z) | with_reducible exact .s (.s (.s .z)) | with_reducible exact .s (.s (.s (.s .z))) | with_reducible exact .s (.s (.s (.s (.s .z))))); (focus repeat' (first | with_reducible exact .z | with_reducible apply Drop.s)); (focus repeat' (first | with_reducible exact .z | with_reducible apply Take.s)); exact rfl; all_goals skip) | ((with_reducible apply own_store HM); exact rfl; exact rfl; (conv => lhs; whnf); exact rfl; (first | with_reducible exact .z | with_reducible exact .s .z | with_reducible exact .s (.s .z) | with_reducible exact .s (.s (.s .z)) | with_reducible exact .s (.s (.s (.s .z))) | with_reducible exact .s (.s (.s (.s (.s .z))))); (focus repeat' (first | with_reducible exact .z | with_reducible apply Over.p | with_reducible apply Over.s)); (first | with_reducible exact .z | with_reducible exact .s .z | with_reducible exact .s (.s .z) | with_reducible exact .s (.s (.s .z)) | with_reducible exact .s (.s (.s (.s .z))) | with_reducible exact .s (.s (.s (.s (.s .z))))); (first | (with_reducible exact (aggN).size) | (with_reducible exact (oneInt).size) | (with_reducible exact (oneBool).size) | (with_reducible exact (oneU8).size) | (with_reducible exact (oneU16).size)); exact rfl; exact rfl; exact rfl; exact rfl; intro w' HM'; clear HM; have HM := HM'; clear HM'; all_goals skip)
      | (go_at_call 13; refine (rright_at m c h x _ HR.out m0 x00 _).mono ?_; rintro e w2 ⟨rfl, hb⟩; have HM' := Lib.hid (HM.out.call hb); clear HM hb; have HM := HM'; clear HM'))
    go_loopw [26] (fun i wr => ∃ (k : Nat) (C : Int) (H : Bool) (X : Int), k ≤ n ∧ 0 ≤ C ∧ C ≤ 64 ∧ 0 < X ∧ X < 65536 ∧ i = .int .i64 k ∧ Hid (Own w wr [(g2, 24, [.int .u8 m, .int .i64 C, .bool H, .int .u16 X]), (g1, 24, [.int .u8 m, .int .i64 C, .bool H, .int .u16 X])])) (fun i _ => n - (intOf i).toNat)
    case atStart => exact ⟨0, c, h, x, by omega, c0, c1, x0, x1, rfl, HM⟩
    case round =>
      clear HM
      obtain ⟨k, C, H, X, hk, C0, C1, X0, X1, rfl, HM⟩ := hrel
      by_cases hlt : k < n
      · obtain ⟨g, o, rfl, hg, hc⟩ := hB (by omega)
        have hc' := (HM.out.below.cell (p := ⟨g, o + k, none⟩) hg).trans (hc k hlt)
        obtain ⟨t, ht⟩ : ∃ t, t = B k := ⟨_, rfl⟩
        rw [← ht] at hc'
        clear ht hc
        obtain ⟨C', H', X', HS⟩ : ∃ C' H' X', Hid (NextN m C H X t C' H' X') := ⟨_, _, _, rfl, rfl, rfl⟩
        obtain ⟨k0, k1, k2, k3, k4⟩ := next_right m C H X t C' H' X' HS.out m0 m1 C0 C1 X0 X1
        have KR := Lib.hid k4
        have X00 : 0 ≤ X := by omega
        have K00 : 0 ≤ X' := by omega
        clear k4
        go_wp2_with (first
          | ((with_reducible apply own_box HM); exact rfl; (conv => lhs; whnf); exact rfl; exact rfl; (first | (clear tg1; intro w' g1 HM') | (clear tg2; intro w' g2 HM') | (clear tg3; intro w' g3 HM') | (clear tg4; intro w' g4 HM') | intro w' g' HM'); clear HM; have HM := HM'; clear HM'; all_goals skip) | ((with_reducible apply own_alloc HM); exact rfl; (first | (with_reducible exact zeroN)); exact rfl; (first | (clear tg1; intro w' g1 HM') | (clear tg2; intro w' g2 HM') | (clear tg3; intro w' g3 HM') | (clear tg4; intro w' g4 HM') | intro w' g' HM'); clear HM; have HM := HM'; clear HM'; all_goals skip) | ((with_reducible apply own_cell HM); exact rfl; exact rfl; (first | (with_reducible exact oneInt) | (with_reducible exact oneBool) | (with_reducible exact oneU8) | (with_reducible exact oneU16)); (first | with_reducible exact .z | with_reducible exact .s .z | with_reducible exact .s (.s .z) | with_reducible exact .s (.s (.s .z)) | with_reducible exact .s (.s (.s (.s .z))) | with_reducible exact .s (.s (.s (.s (.s .z))))); (focus repeat' (first | with_reducible exact .z | with_reducible apply Drop.s)); exact rfl; all_goals skip) | ((with_reducible apply own_load HM); exact rfl; exact rfl; (first | (with_reducible exact aggN)); (first | with_reducible exact .z | with_reducible exact .s .z | with_reducible exact .s (.s .z) | with_reducible exact .s (.s (.s .z)) | with_reducible exact .s (.s (.s (.s .z))) | with_reducible exact .s (.s (.s (.s (.s .z))))); (focus repeat' (first | with_reducible exact .z | with_reducible apply Drop.s)); (focus repeat' (first | with_reducible exact .z | with_reducible apply Take.s)); exact rfl; all_goals skip) | ((with_reducible apply own_store HM); exact rfl; exact rfl; (conv => lhs; whnf); exact rfl; (first | with_reducible exact .z | with_reducible exact .s .z | with_reducible exact .s (.s .z) | with_reducible exact .s (.s (.s .z)) | with_reducible exact .s (.s (.s (.s .z))) | with_reducible exact .s (.s (.s (.s (.s .z))))); (focus repeat' (first | with_reducible exact .z | with_reducible apply Over.p | with_reducible apply Over.s)); (first | with_reducible exact .z | with_reducible exact .s .z | with_reducible exact .s (.s .z) | with_reducible exact .s (.s (.s .z)) | with_reducible exact .s (.s (.s (.s .z))) | with_reducible exact .s (.s (.s (.s (.s .z))))); (first | (with_reducible exact (aggN).size) | (with_reducible exact (oneInt).size) | (with_reducible exact (oneBool).size) | (with_reducible exact (oneU8).size) | (with_reducible exact (oneU16).size)); exact rfl; exact rfl; exact rfl; exact rfl; intro w' HM'; clear HM; have HM := HM'; clear HM'; all_goals skip)
          | (go_at_call 14; refine (step_at m C H X t C' H' X' HS m0 m1 C0 C1 X00 X1 _).mono ?_; rintro e w2 ⟨rfl, hb⟩; have HM' := Lib.hid (HM.out.call hb); clear HM hb; have HM := HM'; clear HM')
          | (go_at_call 15; refine (rstep_at m C H X t C' H' X' HS m0 m1 C0 C1 X00 X1 _).mono ?_; rintro e w2 ⟨rfl, hb⟩; have HM' := Lib.hid (HM.out.call hb); clear HM hb; have HM := HM'; clear HM'))
        have hs := noise_same m C' H' X'
        rcases (show X' % 2 = 0 ∨ X' % 2 = 1 by omega) with hz | hz
        all_goals
          have hz2 : X'.tmod 2 = X' % 2 := Int.tmod_eq_emod_of_nonneg K00
          rw [hz] at hz2
          have HZ := Lib.hid hz
          go_cut [52] from 36 to 52 (fun s52 wx => s52 = .bool false ∧ Hid (Own w wx [(g2, 24, [.int .u8 m, .int .i64 C', .bool H', .int .u16 X']), (g1, 24, [.int .u8 m, .int .i64 C', .bool H', .int .u16 X'])]))
          case' first =>
            have HM' := Lib.hid HM.out.drew
            clear HM hc'
            have HM := HM'
            clear HM'
            obtain ⟨e0, e1, e2, e3⟩ := noise_cells (HM.out.at_ .z)
            obtain ⟨d0, d1, d2, d3⟩ := noise_cells (HM.out.at_ (.s .z))
            go_region_with (first
              | (go_at_call 12; refine (out_any m C' H' X' K00 k3 _ (by simp only [HZ.out]; rfl) _).mono ?_; rintro e w2 ⟨rfl, hb⟩; have HM' := Lib.hid (HM.out.call hb); clear HM hb; have HM := HM'; clear HM'; obtain ⟨e0, e1, e2, e3⟩ := noise_cells (HM.out.at_ .z); obtain ⟨d0, d1, d2, d3⟩ := noise_cells (HM.out.at_ (.s .z)))
              | (go_at_call 10; refine (right_at m C' H' X' true KR.out m0 K00 _).mono ?_; rintro e w2 ⟨rfl, hb⟩; have HM' := Lib.hid (HM.out.call hb); clear HM hb; have HM := HM'; clear HM'; obtain ⟨e0, e1, e2, e3⟩ := noise_cells (HM.out.at_ .z); obtain ⟨d0, d1, d2, d3⟩ := noise_cells (HM.out.at_ (.s .z))))
            all_goals (go_wp2_with fail; go_meet; exact ⟨by simp, HM⟩)
          case' rest =>
            clear HM
            obtain ⟨rfl, HM⟩ := hcut
            go_wp2_with fail
            go_roundw
            case rel => exact ⟨k + 1, C', H', X', by omega, k0, k1, k2, k3, by go_num, HM⟩
            case measure => simp [intOf]; omega
      · obtain rfl : k = n := by omega
        go_wp2_with fail
        go_ret
        exact ⟨rfl, Own.fin HM⟩

theorem runs_any (m c : Int) (h : Bool) (x : Int) (m0 : 0 ≤ m) (x0 : 0 ≤ x) (x1 : x < 65536) (a : Option Addr) (n cap : Nat) (B : Nat → Bool) (w : World) (hB : BoolsIn w a n B) :
    Calls Try.prog 4 #[.agg #[.int .u8 m, .int .i64 c, .bool h, .int .u16 x], .slice a n cap] w fun e w' => e = .returned (.bool true) ∧ Below w.heap.size w w' := by
  by_cases hr : rightB m c x = true
  · by_cases hn : 3000 < n
    · exact runs_out m c h x m0 x0 a n cap true hr (.inr hn) w
    · have hr' := (rightB_iff m c x).1 hr
      exact runs_in m c h x m0 hr'.1 hr'.2.1 hr'.2.2.1 hr'.2.2.2 x1 a n cap (by omega) B w hB
  · exact runs_out m c h x m0 x0 a n cap false (by simpa using hr) (.inl rfl) w

end Go.Proofs.Ytelncbajkbgepaa
