/-
  The law TileTurns returns true.
-/
import Derived.Test.YtcggfpmappfieaaTiRows
import Derived.Test.YtcggfpmappfieaaTakes
namespace Go.Proofs.Ytcggfpmappfieaa
open Go.RowKit

theorem dotV_le (b0 b1 b2 b3 p : Nat) : dotV b0 b1 b2 b3 p ≤ 15 := by unfold dotV; omega
theorem row_nil (p q : Int) (w : World) : Calls Try.prog 9 #[.slice none 0 0, .int .i64 p, .int .i64 q, .bool true] w fun e w' => e = .returned (.agg #[.int .u8 0, .int .u8 0, .int .u8 0, .int .u8 0, .int .u8 0, .int .u8 0, .int .u8 0, .int .u8 0]) ∧ Below w.heap.size w w' := by
  obtain ⟨ff, hf⟩ : ∃ f : Nat, Hid (32 * (p % 512) + 4 * (q % 8) = (f : Int)) := ⟨(32 * (p % 512) + 4 * (q % 8)).toNat, Lib.hid (by omega)⟩
  have e (k : Nat) : Hid (vget 0 (fun _ => 0) k = 0) := Lib.hid (by unfold vget; rw [if_neg (by omega)])
  exact row_t none 0 0 (fun _ => 0) p q _ _ ff 0 0 0 0 0 0 0 0 0 0 0 0 rfl rfl hf (e _) (e _) (e _) (e _) rfl rfl rfl rfl rfl rfl rfl rfl w (ByteRow.nil _ _ _)
set_option maxRecDepth 100000 in
set_option maxHeartbeats 6400000 in
theorem turns_in (a1 a2 : Option Addr) (n1 c1 n2 c2 : Nat) (many at_ : Int) (xs1 xs2 : Nat → Nat) (p q : Int) (w : World) (h1 : ByteRow w a1 n1 xs1) (h2 : ByteRow w a2 n2 xs2) (l1 : n1 ≤ 300) (l2 : n2 ≤ 300) :
    Calls Try.prog 6 #[.agg #[.slice a1 n1 c1, .slice a2 n2 c2, .int .i64 many, .int .i64 at_], .agg #[.int .i64 p, .int .i64 q]] w fun e w' => e = .returned (.bool true) ∧ Below w.heap.size w w' := by
  have HM := Lib.hid (Own.start w)
  have tg1 : Hid True := trivial
  have tg2 : Hid True := trivial
  have L1 := Lib.hid l1
  have L2 := Lib.hid l2
  have K1 : ((300 : Int) < (n1 : Int)) = False := by rw [eq_iff_iff, iff_false]; omega
  have K2 : ((300 : Int) < (n2 : Int)) = False := by rw [eq_iff_iff, iff_false]; omega
  have HV1 := Lib.hid h1
  have HV2 := Lib.hid h2
  clear l1 l2 h1 h2
  go_enter Try.func6, Try.ntmps6
  go_upto_region 3 with (first | ((with_reducible apply own_box HM); exact rfl; (conv => lhs; whnf); exact rfl; exact rfl; (first | (clear tg1; intro w' g1 HM') | (clear tg2; intro w' g2 HM') | (clear tg3; intro w' g3 HM') | (clear tg4; intro w' g4 HM') | intro w' g' HM'); clear HM; have HM := HM'; clear HM'; all_goals skip) | ((with_reducible apply own_cell HM); exact rfl; exact rfl; (first | (with_reducible exact oneInt) | (with_reducible exact oneBool) | (with_reducible exact oneU8) | (with_reducible exact oneBs)); (first | with_reducible exact .z | with_reducible exact .s .z | with_reducible exact .s (.s .z) | with_reducible exact .s (.s (.s .z)) | with_reducible exact .s (.s (.s (.s .z))) | with_reducible exact .s (.s (.s (.s (.s .z))))); (focus repeat' (first | with_reducible exact .z | with_reducible apply Drop.s)); exact rfl; all_goals skip) | ((with_reducible apply own_load HM); exact rfl; exact rfl; (first | (with_reducible exact aggI) | (with_reducible exact agg2)); (first | with_reducible exact .z | with_reducible exact .s .z | with_reducible exact .s (.s .z) | with_reducible exact .s (.s (.s .z)) | with_reducible exact .s (.s (.s (.s .z))) | with_reducible exact .s (.s (.s (.s (.s .z))))); (focus repeat' (first | with_reducible exact .z | with_reducible apply Drop.s)); (focus repeat' (first | with_reducible exact .z | with_reducible apply Take.s)); exact rfl; all_goals skip) | ((with_reducible apply own_store HM); exact rfl; exact rfl; (conv => lhs; whnf); exact rfl; (first | with_reducible exact .z | with_reducible exact .s .z | with_reducible exact .s (.s .z) | with_reducible exact .s (.s (.s .z)) | with_reducible exact .s (.s (.s (.s .z))) | with_reducible exact .s (.s (.s (.s (.s .z))))); (focus repeat' (first | with_reducible exact .z | with_reducible apply Over.p | with_reducible apply Over.s)); (first | with_reducible exact .z | with_reducible exact .s .z | with_reducible exact .s (.s .z) | with_reducible exact .s (.s (.s .z)) | with_reducible exact .s (.s (.s (.s .z))) | with_reducible exact .s (.s (.s (.s (.s .z))))); (first | (with_reducible exact (aggI).size) | (with_reducible exact (agg2).size) | (with_reducible exact (oneInt).size) | (with_reducible exact (oneBool).size) | (with_reducible exact (oneU8).size) | (with_reducible exact (oneBs).size)); exact rfl; exact rfl; exact rfl; exact rfl; intro w' HM'; clear HM; have HM := HM'; clear HM'; all_goals skip) | (go_at_call 8; (with_reducible refine (alive_any _).mono ?_); rintro e w' ⟨rfl, hb⟩; have HM' := Lib.hid (HM.out.call hb); clear HM hb; have HM := HM'; clear HM'))
  (refine own_inorder HM ?_; (try simp only [Act.put, List.setIfInBounds_toArray, List.set_cons_zero, List.set_cons_succ]); repeat ((fail_if_success (with_reducible refine wpQuiet_nil ?_)); first | go_big_quiet_skip | (go_big_quiet_want; first | ((with_reducible apply quiet_load); exact rfl; (first | (with_reducible exact aggI)); (first | with_reducible exact .z | with_reducible exact .s .z | with_reducible exact .s (.s .z) | with_reducible exact .s (.s (.s .z)) | with_reducible exact .s (.s (.s (.s .z))) | with_reducible exact .s (.s (.s (.s (.s .z))))); (focus repeat' (first | with_reducible exact .z | with_reducible apply Drop.s)); (focus repeat' (first | with_reducible exact .z | with_reducible apply Take.s)); go_big_quiet_op; go_big_quiet_on) | ((with_reducible apply quiet_cell); exact rfl; (first | (with_reducible exact oneInt) | (with_reducible exact oneBool) | (with_reducible exact oneU8) | (with_reducible exact oneBs)); (first | with_reducible exact .z | with_reducible exact .s .z | with_reducible exact .s (.s .z) | with_reducible exact .s (.s (.s .z)) | with_reducible exact .s (.s (.s (.s .z))) | with_reducible exact .s (.s (.s (.s (.s .z))))); (focus repeat' (first | with_reducible exact .z | with_reducible apply Drop.s)); go_big_quiet_op; go_big_quiet_on) | (go_big_quiet_op; go_big_quiet_on) | (go_big_quiet_op; go_big_quiet_on) | (go_big_quiet_op; refine ⟨_, fun _ _ => rfl, ?_⟩; go_big_quiet_on))))
  refine wpQuiet_nil ?_
  intro w' HM'
  clear HM; have HM := HM'; clear HM'
  clear K1 K2
  go_upto_region 6 with (first | ((with_reducible apply own_box HM); exact rfl; (conv => lhs; whnf); exact rfl; exact rfl; (first | (clear tg1; intro w' g1 HM') | (clear tg2; intro w' g2 HM') | (clear tg3; intro w' g3 HM') | (clear tg4; intro w' g4 HM') | intro w' g' HM'); clear HM; have HM := HM'; clear HM'; all_goals skip) | ((with_reducible apply own_cell HM); exact rfl; exact rfl; (first | (with_reducible exact oneInt) | (with_reducible exact oneBool) | (with_reducible exact oneU8) | (with_reducible exact oneBs)); (first | with_reducible exact .z | with_reducible exact .s .z | with_reducible exact .s (.s .z) | with_reducible exact .s (.s (.s .z)) | with_reducible exact .s (.s (.s (.s .z))) | with_reducible exact .s (.s (.s (.s (.s .z))))); (focus repeat' (first | with_reducible exact .z | with_reducible apply Drop.s)); exact rfl; all_goals skip) | ((with_reducible apply own_load HM); exact rfl; exact rfl; (first | (with_reducible exact aggI) | (with_reducible exact agg2)); (first | with_reducible exact .z | with_reducible exact .s .z | with_reducible exact .s (.s .z) | with_reducible exact .s (.s (.s .z)) | with_reducible exact .s (.s (.s (.s .z))) | with_reducible exact .s (.s (.s (.s (.s .z))))); (focus repeat' (first | with_reducible exact .z | with_reducible apply Drop.s)); (focus repeat' (first | with_reducible exact .z | with_reducible apply Take.s)); exact rfl; all_goals skip) | ((with_reducible apply own_store HM); exact rfl; exact rfl; (conv => lhs; whnf); exact rfl; (first | with_reducible exact .z | with_reducible exact .s .z | with_reducible exact .s (.s .z) | with_reducible exact .s (.s (.s .z)) | with_reducible exact .s (.s (.s (.s .z))) | with_reducible exact .s (.s (.s (.s (.s .z))))); (focus repeat' (first | with_reducible exact .z | with_reducible apply Over.p | with_reducible apply Over.s)); (first | with_reducible exact .z | with_reducible exact .s .z | with_reducible exact .s (.s .z) | with_reducible exact .s (.s (.s .z)) | with_reducible exact .s (.s (.s (.s .z))) | with_reducible exact .s (.s (.s (.s (.s .z))))); (first | (with_reducible exact (aggI).size) | (with_reducible exact (agg2).size) | (with_reducible exact (oneInt).size) | (with_reducible exact (oneBool).size) | (with_reducible exact (oneU8).size) | (with_reducible exact (oneBs).size)); exact rfl; exact rfl; exact rfl; exact rfl; intro w' HM'; clear HM; have HM := HM'; clear HM'; all_goals skip) | (go_at_call 11; (with_reducible refine (build_any a1 a2 n1 c1 n2 c2 many at_ xs1 xs2 _ (HV1.out.under (Own.fin HM)) (HV2.out.under (Own.fin HM)) L1.out L2.out).mono ?_); rintro e w' ⟨g, m, ys, rfl, hm, hy, hg, hW, hb⟩; have HM' := Lib.hid (HM.out.plus hb hg hW); have HY := Lib.hid hy; have HN := Lib.hid hm; clear HM hb hy hm hg hW; have HM := HM'; clear HM'))
  obtain ⟨T, hT⟩ : ∃ T, Hid (p % 512 = T) := ⟨_, rfl⟩
  obtain ⟨R, hR⟩ : ∃ R, Hid (q % 8 = R) := ⟨_, rfl⟩
  obtain ⟨ff, hf⟩ : ∃ f : Nat, Hid (32 * T + 4 * R = (f : Int)) := ⟨(32 * T + 4 * R).toNat, Lib.hid (by have := hT.out; have := hR.out; omega)⟩
  obtain ⟨b0, hb0⟩ : ∃ x, Hid (vget m ys ff = x) := ⟨_, rfl⟩
  obtain ⟨b1, hb1⟩ : ∃ x, Hid (vget m ys (ff + 1) = x) := ⟨_, rfl⟩
  obtain ⟨b2, hb2⟩ : ∃ x, Hid (vget m ys (ff + 2) = x) := ⟨_, rfl⟩
  obtain ⟨b3, hb3⟩ : ∃ x, Hid (vget m ys (ff + 3) = x) := ⟨_, rfl⟩
  obtain ⟨d0, hd0⟩ : ∃ x, Hid (dotV b0 b1 b2 b3 128 = x) := ⟨_, rfl⟩
  obtain ⟨d1, hd1⟩ : ∃ x, Hid (dotV b0 b1 b2 b3 64 = x) := ⟨_, rfl⟩
  obtain ⟨d2, hd2⟩ : ∃ x, Hid (dotV b0 b1 b2 b3 32 = x) := ⟨_, rfl⟩
  obtain ⟨d3, hd3⟩ : ∃ x, Hid (dotV b0 b1 b2 b3 16 = x) := ⟨_, rfl⟩
  obtain ⟨d4, hd4⟩ : ∃ x, Hid (dotV b0 b1 b2 b3 8 = x) := ⟨_, rfl⟩
  obtain ⟨d5, hd5⟩ : ∃ x, Hid (dotV b0 b1 b2 b3 4 = x) := ⟨_, rfl⟩
  obtain ⟨d6, hd6⟩ : ∃ x, Hid (dotV b0 b1 b2 b3 2 = x) := ⟨_, rfl⟩
  obtain ⟨d7, hd7⟩ : ∃ x, Hid (dotV b0 b1 b2 b3 1 = x) := ⟨_, rfl⟩
  have D0 : Hid ((15 : Int) < (d0 : Int) ↔ False) := Lib.hid (by have := dotV_le b0 b1 b2 b3 128; rw [hd0.out] at this; rw [iff_false]; omega)
  have D1 : Hid ((15 : Int) < (d1 : Int) ↔ False) := Lib.hid (by have := dotV_le b0 b1 b2 b3 64; rw [hd1.out] at this; rw [iff_false]; omega)
  have D2 : Hid ((15 : Int) < (d2 : Int) ↔ False) := Lib.hid (by have := dotV_le b0 b1 b2 b3 32; rw [hd2.out] at this; rw [iff_false]; omega)
  have D3 : Hid ((15 : Int) < (d3 : Int) ↔ False) := Lib.hid (by have := dotV_le b0 b1 b2 b3 16; rw [hd3.out] at this; rw [iff_false]; omega)
  have D4 : Hid ((15 : Int) < (d4 : Int) ↔ False) := Lib.hid (by have := dotV_le b0 b1 b2 b3 8; rw [hd4.out] at this; rw [iff_false]; omega)
  have D5 : Hid ((15 : Int) < (d5 : Int) ↔ False) := Lib.hid (by have := dotV_le b0 b1 b2 b3 4; rw [hd5.out] at this; rw [iff_false]; omega)
  have D6 : Hid ((15 : Int) < (d6 : Int) ↔ False) := Lib.hid (by have := dotV_le b0 b1 b2 b3 2; rw [hd6.out] at this; rw [iff_false]; omega)
  have D7 : Hid ((15 : Int) < (d7 : Int) ↔ False) := Lib.hid (by have := dotV_le b0 b1 b2 b3 1; rw [hd7.out] at this; rw [iff_false]; omega)
  go_cut [6, 7] from 23 to 34 (fun s6 s7 wx => ∃ ga gb, s6 = .pointer (some ⟨ga, 0, none⟩) ∧ s7 = .pointer (some ⟨gb, 0, none⟩) ∧ Hid (Own w wx ((gb, 26, [.int .u8 (d7 : Int), .int .u8 (d6 : Int), .int .u8 (d5 : Int), .int .u8 (d4 : Int), .int .u8 (d3 : Int), .int .u8 (d2 : Int), .int .u8 (d1 : Int), .int .u8 (d0 : Int)]) :: (ga, 26, [.int .u8 (d0 : Int), .int .u8 (d1 : Int), .int .u8 (d2 : Int), .int .u8 (d3 : Int), .int .u8 (d4 : Int), .int .u8 (d5 : Int), .int .u8 (d6 : Int), .int .u8 (d7 : Int)]) :: [(g, 5, b8 m ys), (g2, 31, [.int .i64 p, .int .i64 q]), (g1, 30, [.slice a1 n1 c1, .slice a2 n2 c2, .int .i64 many, .int .i64 at_])])))
  case' first =>
    refine wp_region_held (S := fun w' => Own w w' [(g, 5, b8 m ys), (g2, 31, [.int .i64 p, .int .i64 q]), (g1, 30, [.slice a1 n1 c1, .slice a2 n2 c2, .int .i64 many, .int .i64 at_])]) (by kernel_rfl) ?_
    replace HM := Lib.hid HM.out.drew
    change wpAnyH _ _ _ _ _ _ _ _ (World.drew _)
    have HQ := HM.out
    refine h_take (i := 0) (d := 23) (v := .slice (some ⟨g, 0, none⟩) m m) rfl rfl (by kernel_rfl) (by kernel_rfl) (by kernel_rfl) (fun _ _ _ h => h) (y_pure rfl (fun w => by go_simp)) HQ ?_
    (try simp only [Act.put, List.setIfInBounds_toArray, List.set_cons_zero, List.set_cons_succ])
    refine h_take (i := 1) (d := 24) (v := .pointer (some ⟨g2, 0, none⟩)) rfl rfl (by kernel_rfl) (by kernel_rfl) (by kernel_rfl) (fun _ _ _ h => h) (y_pure rfl (fun w => by go_simp)) HQ ?_
    (try simp only [Act.put, List.setIfInBounds_toArray, List.set_cons_zero, List.set_cons_succ])
    refine h_take (i := 2) (d := 25) (v := .int .i64 p) rfl rfl (by kernel_rfl) (by kernel_rfl) (by kernel_rfl) (fun _ _ _ h => h) (y_cell (g := g2) (off := 0) rfl rfl oneInt (.s .z) .z rfl) HQ ?_
    (try simp only [Act.put, List.setIfInBounds_toArray, List.set_cons_zero, List.set_cons_succ])
    refine h_take (i := 3) (d := 26) (v := .pointer (some ⟨g2, 1, none⟩)) rfl rfl (by kernel_rfl) (by kernel_rfl) (by kernel_rfl) (fun _ _ _ h => h) (y_pure rfl (fun w => by go_simp)) HQ ?_
    (try simp only [Act.put, List.setIfInBounds_toArray, List.set_cons_zero, List.set_cons_succ])
    refine h_take (i := 4) (d := 27) (v := .int .i64 q) rfl rfl (by kernel_rfl) (by kernel_rfl) (by kernel_rfl) (fun _ _ _ h => h) (y_cell (g := g2) (off := 1) rfl rfl oneInt (.s .z) (.s .z) rfl) HQ ?_
    (try simp only [Act.put, List.setIfInBounds_toArray, List.set_cons_zero, List.set_cons_succ])
    refine h_take (i := 6) (d := 29) (v := .slice (some ⟨g, 0, none⟩) m m) rfl rfl (by kernel_rfl) (by kernel_rfl) (by kernel_rfl) (fun _ _ _ h => h) (y_pure rfl (fun w => by go_simp)) HQ ?_
    (try simp only [Act.put, List.setIfInBounds_toArray, List.set_cons_zero, List.set_cons_succ])
    refine h_take (i := 7) (d := 30) (v := .pointer (some ⟨g2, 0, none⟩)) rfl rfl (by kernel_rfl) (by kernel_rfl) (by kernel_rfl) (fun _ _ _ h => h) (y_pure rfl (fun w => by go_simp)) HQ ?_
    (try simp only [Act.put, List.setIfInBounds_toArray, List.set_cons_zero, List.set_cons_succ])
    refine h_take (i := 8) (d := 31) (v := .int .i64 p) rfl rfl (by kernel_rfl) (by kernel_rfl) (by kernel_rfl) (fun _ _ _ h => h) (y_cell (g := g2) (off := 0) rfl rfl oneInt (.s .z) .z rfl) HQ ?_
    (try simp only [Act.put, List.setIfInBounds_toArray, List.set_cons_zero, List.set_cons_succ])
    refine h_take (i := 9) (d := 32) (v := .pointer (some ⟨g2, 1, none⟩)) rfl rfl (by kernel_rfl) (by kernel_rfl) (by kernel_rfl) (fun _ _ _ h => h) (y_pure rfl (fun w => by go_simp)) HQ ?_
    (try simp only [Act.put, List.setIfInBounds_toArray, List.set_cons_zero, List.set_cons_succ])
    refine h_take (i := 10) (d := 33) (v := .int .i64 q) rfl rfl (by kernel_rfl) (by kernel_rfl) (by kernel_rfl) (fun _ _ _ h => h) (y_cell (g := g2) (off := 1) rfl rfl oneInt (.s .z) (.s .z) rfl) HQ ?_
    (try simp only [Act.put, List.setIfInBounds_toArray, List.set_cons_zero, List.set_cons_succ])
    clear HQ
    have HM0 := HM
    clear HM
    refine wpAnyH_all (rs := [5, 12, 13]) (by kernel_rfl) (by simp) ?_
    intro i hi
    simp only [List.mem_cons, List.not_mem_nil, or_false] at hi
    rcases hi with rfl | rfl | rfl
    · refine wpOp_of rfl rfl ?_
      refine w_call (f := 9) (args := #[.slice (some ⟨g, 0, none⟩) m m, .int .i64 p, .int .i64 q, .bool false]) (fun w => rfl) (by go_simp) ?_
      refine (row_f (some ⟨g, 0, none⟩) m m ys p q T R ff b0 b1 b2 b3 d0 d1 d2 d3 d4 d5 d6 d7 hT hR hf hb0 hb1 hb2 hb3 hd0 hd1 hd2 hd3 hd4 hd5 hd6 hd7 _ (HM0.out.byteRow .z HY.out)).mono ?_
      rintro e w0 ⟨rfl, hb⟩
      have HM1 := Lib.hid (HM0.out.call hb)
      refine ⟨_, rfl, HM1.out, ?_⟩
      clear hb HM0
      change wpAnyH _ _ _ _ _ _ _ (Act.put _ (some 28) _) _
      (try simp only [Act.put, List.setIfInBounds_toArray, List.set_cons_zero, List.set_cons_succ])
      refine wpAnyH_all (rs := [11, 12, 13]) (by kernel_rfl) (by simp) ?_
      intro i hi
      simp only [List.mem_cons, List.not_mem_nil, or_false] at hi
      rcases hi with rfl | rfl | rfl
      · refine wpOp_of rfl rfl ?_
        refine w_call (f := 9) (args := #[.slice (some ⟨g, 0, none⟩) m m, .int .i64 p, .int .i64 q, .bool true]) (fun w => rfl) (by go_simp) ?_
        refine (row_t (some ⟨g, 0, none⟩) m m ys p q T R ff b0 b1 b2 b3 d0 d1 d2 d3 d4 d5 d6 d7 hT hR hf hb0 hb1 hb2 hb3 hd0 hd1 hd2 hd3 hd4 hd5 hd6 hd7 _ (HM1.out.byteRow .z HY.out)).mono ?_
        rintro e w1 ⟨rfl, hb⟩
        have HM2 := Lib.hid (HM1.out.call hb)
        refine ⟨_, rfl, HM2.out, ?_⟩
        clear hb HM1
        change wpAnyH _ _ _ _ _ _ _ (Act.put _ (some 34) _) _
        (try simp only [Act.put, List.setIfInBounds_toArray, List.set_cons_zero, List.set_cons_succ])
        refine wpAnyH_all (rs := [12, 13]) (by kernel_rfl) (by simp) ?_
        intro i hi
        simp only [List.mem_cons, List.not_mem_nil, or_false] at hi
        rcases hi with rfl | rfl
        · refine wpOp_of rfl rfl ?_
          refine w_alloc HM2 rfl zero8 ?_
          intro w2 ga HM3
          refine ⟨HM3.out.forget, ?_⟩
          clear HM2
          change wpAnyH _ _ _ _ _ _ _ (Act.put _ (some 6) _) _
          (try simp only [Act.put, List.setIfInBounds_toArray, List.set_cons_zero, List.set_cons_succ])
          refine wpAnyH_all (rs := [13]) (by kernel_rfl) (by simp) ?_
          intro i hi
          obtain rfl := List.mem_singleton.1 hi
          refine wpOp_of rfl rfl ?_
          refine w_alloc HM3 rfl zero8 ?_
          intro w3 gb HM4
          refine ⟨HM4.out.forget.forget, ?_⟩
          clear HM3
          change wpAnyH _ _ _ _ _ _ _ (Act.put _ (some 7) _) _
          (try simp only [Act.put, List.setIfInBounds_toArray, List.set_cons_zero, List.set_cons_succ])
          refine wpAnyH_all (rs := [14]) (by kernel_rfl) (by simp) ?_
          intro i hi
          obtain rfl := List.mem_singleton.1 hi
          refine wpOp_of rfl rfl ?_
          refine w_lay HM4 rfl rfl rfl (.s .z) (.s .z) agg8.size rfl rfl rfl rfl ?_
          intro w4 HM5
          refine ⟨HM5.out.forget.forget, ?_⟩
          clear HM4
          refine wpAnyH_all (rs := [15]) (by kernel_rfl) (by simp) ?_
          intro i hi
          obtain rfl := List.mem_singleton.1 hi
          refine wpOp_of rfl rfl ?_
          refine w_lay HM5 rfl rfl rfl .z .z agg8.size rfl rfl rfl rfl ?_
          intro w5 HM6
          refine ⟨HM6.out.forget.forget, ?_⟩
          clear HM5
          refine wpAnyH_done (by kernel_rfl) ?_ _
          go_wp2_with fail
          go_meet
          exact ⟨ga, gb, rfl, rfl, HM6⟩
        · refine wpOp_of rfl rfl ?_
          refine w_alloc HM2 rfl zero8 ?_
          intro w2 gb HM3
          refine ⟨HM3.out.forget, ?_⟩
          clear HM2
          change wpAnyH _ _ _ _ _ _ _ (Act.put _ (some 7) _) _
          (try simp only [Act.put, List.setIfInBounds_toArray, List.set_cons_zero, List.set_cons_succ])
          refine wpAnyH_all (rs := [12]) (by kernel_rfl) (by simp) ?_
          intro i hi
          obtain rfl := List.mem_singleton.1 hi
          refine wpOp_of rfl rfl ?_
          refine w_alloc HM3 rfl zero8 ?_
          intro w3 ga HM4
          refine ⟨HM4.out.forget.forget, ?_⟩
          clear HM3
          change wpAnyH _ _ _ _ _ _ _ (Act.put _ (some 6) _) _
          (try simp only [Act.put, List.setIfInBounds_toArray, List.set_cons_zero, List.set_cons_succ])
          refine wpAnyH_all (rs := [14]) (by kernel_rfl) (by simp) ?_
          intro i hi
          obtain rfl := List.mem_singleton.1 hi
          refine wpOp_of rfl rfl ?_
          refine w_lay HM4 rfl rfl rfl .z .z agg8.size rfl rfl rfl rfl ?_
          intro w4 HM5
          refine ⟨HM5.out.forget.forget, ?_⟩
          clear HM4
          refine wpAnyH_all (rs := [15]) (by kernel_rfl) (by simp) ?_
          intro i hi
          obtain rfl := List.mem_singleton.1 hi
          refine wpOp_of rfl rfl ?_
          refine w_lay HM5 rfl rfl rfl (.s .z) (.s .z) agg8.size rfl rfl rfl rfl ?_
          intro w5 HM6
          refine ⟨HM6.out.forget.forget, ?_⟩
          clear HM5
          refine wpAnyH_done (by kernel_rfl) ?_ _
          go_wp2_with fail
          go_meet
          exact ⟨ga, gb, rfl, rfl, (Lib.hid HM6.out.swap2)⟩
      · refine wpOp_of rfl rfl ?_
        refine w_alloc HM1 rfl zero8 ?_
        intro w1 ga HM2
        refine ⟨HM2.out.forget, ?_⟩
        clear HM1
        change wpAnyH _ _ _ _ _ _ _ (Act.put _ (some 6) _) _
        (try simp only [Act.put, List.setIfInBounds_toArray, List.set_cons_zero, List.set_cons_succ])
        refine wpAnyH_all (rs := [11, 13]) (by kernel_rfl) (by simp) ?_
        intro i hi
        simp only [List.mem_cons, List.not_mem_nil, or_false] at hi
        rcases hi with rfl | rfl
        · refine wpOp_of rfl rfl ?_
          refine w_call (f := 9) (args := #[.slice (some ⟨g, 0, none⟩) m m, .int .i64 p, .int .i64 q, .bool true]) (fun w => rfl) (by go_simp) ?_
          refine (row_t (some ⟨g, 0, none⟩) m m ys p q T R ff b0 b1 b2 b3 d0 d1 d2 d3 d4 d5 d6 d7 hT hR hf hb0 hb1 hb2 hb3 hd0 hd1 hd2 hd3 hd4 hd5 hd6 hd7 _ (HM2.out.byteRow (.s .z) HY.out)).mono ?_
          rintro e w2 ⟨rfl, hb⟩
          have HM3 := Lib.hid (HM2.out.call hb)
          refine ⟨_, rfl, HM3.out.forget, ?_⟩
          clear hb HM2
          change wpAnyH _ _ _ _ _ _ _ (Act.put _ (some 34) _) _
          (try simp only [Act.put, List.setIfInBounds_toArray, List.set_cons_zero, List.set_cons_succ])
          refine wpAnyH_all (rs := [13]) (by kernel_rfl) (by simp) ?_
          intro i hi
          obtain rfl := List.mem_singleton.1 hi
          refine wpOp_of rfl rfl ?_
          refine w_alloc HM3 rfl zero8 ?_
          intro w3 gb HM4
          refine ⟨HM4.out.forget.forget, ?_⟩
          clear HM3
          change wpAnyH _ _ _ _ _ _ _ (Act.put _ (some 7) _) _
          (try simp only [Act.put, List.setIfInBounds_toArray, List.set_cons_zero, List.set_cons_succ])
          refine wpAnyH_all (rs := [14]) (by kernel_rfl) (by simp) ?_
          intro i hi
          obtain rfl := List.mem_singleton.1 hi
          refine wpOp_of rfl rfl ?_
          refine w_lay HM4 rfl rfl rfl (.s .z) (.s .z) agg8.size rfl rfl rfl rfl ?_
          intro w4 HM5
          refine ⟨HM5.out.forget.forget, ?_⟩
          clear HM4
          refine wpAnyH_all (rs := [15]) (by kernel_rfl) (by simp) ?_
          intro i hi
          obtain rfl := List.mem_singleton.1 hi
          refine wpOp_of rfl rfl ?_
          refine w_lay HM5 rfl rfl rfl .z .z agg8.size rfl rfl rfl rfl ?_
          intro w5 HM6
          refine ⟨HM6.out.forget.forget, ?_⟩
          clear HM5
          refine wpAnyH_done (by kernel_rfl) ?_ _
          go_wp2_with fail
          go_meet
          exact ⟨ga, gb, rfl, rfl, HM6⟩
        · refine wpOp_of rfl rfl ?_
          refine w_alloc HM2 rfl zero8 ?_
          intro w2 gb HM3
          refine ⟨HM3.out.forget.forget, ?_⟩
          clear HM2
          change wpAnyH _ _ _ _ _ _ _ (Act.put _ (some 7) _) _
          (try simp only [Act.put, List.setIfInBounds_toArray, List.set_cons_zero, List.set_cons_succ])
          refine wpAnyH_all (rs := [11]) (by kernel_rfl) (by simp) ?_
          intro i hi
          obtain rfl := List.mem_singleton.1 hi
          refine wpOp_of rfl rfl ?_
          refine w_call (f := 9) (args := #[.slice (some ⟨g, 0, none⟩) m m, .int .i64 p, .int .i64 q, .bool true]) (fun w => rfl) (by go_simp) ?_
          refine (row_t (some ⟨g, 0, none⟩) m m ys p q T R ff b0 b1 b2 b3 d0 d1 d2 d3 d4 d5 d6 d7 hT hR hf hb0 hb1 hb2 hb3 hd0 hd1 hd2 hd3 hd4 hd5 hd6 hd7 _ (HM3.out.byteRow (.s (.s .z)) HY.out)).mono ?_
          rintro e w3 ⟨rfl, hb⟩
          have HM4 := Lib.hid (HM3.out.call hb)
          refine ⟨_, rfl, HM4.out.forget.forget, ?_⟩
          clear hb HM3
          change wpAnyH _ _ _ _ _ _ _ (Act.put _ (some 34) _) _
          (try simp only [Act.put, List.setIfInBounds_toArray, List.set_cons_zero, List.set_cons_succ])
          refine wpAnyH_all (rs := [14]) (by kernel_rfl) (by simp) ?_
          intro i hi
          obtain rfl := List.mem_singleton.1 hi
          refine wpOp_of rfl rfl ?_
          refine w_lay HM4 rfl rfl rfl (.s .z) (.s .z) agg8.size rfl rfl rfl rfl ?_
          intro w4 HM5
          refine ⟨HM5.out.forget.forget, ?_⟩
          clear HM4
          refine wpAnyH_all (rs := [15]) (by kernel_rfl) (by simp) ?_
          intro i hi
          obtain rfl := List.mem_singleton.1 hi
          refine wpOp_of rfl rfl ?_
          refine w_lay HM5 rfl rfl rfl .z .z agg8.size rfl rfl rfl rfl ?_
          intro w5 HM6
          refine ⟨HM6.out.forget.forget, ?_⟩
          clear HM5
          refine wpAnyH_done (by kernel_rfl) ?_ _
          go_wp2_with fail
          go_meet
          exact ⟨ga, gb, rfl, rfl, HM6⟩
      · refine wpOp_of rfl rfl ?_
        refine w_alloc HM1 rfl zero8 ?_
        intro w1 gb HM2
        refine ⟨HM2.out.forget, ?_⟩
        clear HM1
        change wpAnyH _ _ _ _ _ _ _ (Act.put _ (some 7) _) _
        (try simp only [Act.put, List.setIfInBounds_toArray, List.set_cons_zero, List.set_cons_succ])
        refine wpAnyH_all (rs := [11, 12]) (by kernel_rfl) (by simp) ?_
        intro i hi
        simp only [List.mem_cons, List.not_mem_nil, or_false] at hi
        rcases hi with rfl | rfl
        · refine wpOp_of rfl rfl ?_
          refine w_call (f := 9) (args := #[.slice (some ⟨g, 0, none⟩) m m, .int .i64 p, .int .i64 q, .bool true]) (fun w => rfl) (by go_simp) ?_
          refine (row_t (some ⟨g, 0, none⟩) m m ys p q T R ff b0 b1 b2 b3 d0 d1 d2 d3 d4 d5 d6 d7 hT hR hf hb0 hb1 hb2 hb3 hd0 hd1 hd2 hd3 hd4 hd5 hd6 hd7 _ (HM2.out.byteRow (.s .z) HY.out)).mono ?_
          rintro e w2 ⟨rfl, hb⟩
          have HM3 := Lib.hid (HM2.out.call hb)
          refine ⟨_, rfl, HM3.out.forget, ?_⟩
          clear hb HM2
          change wpAnyH _ _ _ _ _ _ _ (Act.put _ (some 34) _) _
          (try simp only [Act.put, List.setIfInBounds_toArray, List.set_cons_zero, List.set_cons_succ])
          refine wpAnyH_all (rs := [12]) (by kernel_rfl) (by simp) ?_
          intro i hi
          obtain rfl := List.mem_singleton.1 hi
          refine wpOp_of rfl rfl ?_
          refine w_alloc HM3 rfl zero8 ?_
          intro w3 ga HM4
          refine ⟨HM4.out.forget.forget, ?_⟩
          clear HM3
          change wpAnyH _ _ _ _ _ _ _ (Act.put _ (some 6) _) _
          (try simp only [Act.put, List.setIfInBounds_toArray, List.set_cons_zero, List.set_cons_succ])
          refine wpAnyH_all (rs := [14]) (by kernel_rfl) (by simp) ?_
          intro i hi
          obtain rfl := List.mem_singleton.1 hi
          refine wpOp_of rfl rfl ?_
          refine w_lay HM4 rfl rfl rfl .z .z agg8.size rfl rfl rfl rfl ?_
          intro w4 HM5
          refine ⟨HM5.out.forget.forget, ?_⟩
          clear HM4
          refine wpAnyH_all (rs := [15]) (by kernel_rfl) (by simp) ?_
          intro i hi
          obtain rfl := List.mem_singleton.1 hi
          refine wpOp_of rfl rfl ?_
          refine w_lay HM5 rfl rfl rfl (.s .z) (.s .z) agg8.size rfl rfl rfl rfl ?_
          intro w5 HM6
          refine ⟨HM6.out.forget.forget, ?_⟩
          clear HM5
          refine wpAnyH_done (by kernel_rfl) ?_ _
          go_wp2_with fail
          go_meet
          exact ⟨ga, gb, rfl, rfl, (Lib.hid HM6.out.swap2)⟩
        · refine wpOp_of rfl rfl ?_
          refine w_alloc HM2 rfl zero8 ?_
          intro w2 ga HM3
          refine ⟨HM3.out.forget.forget, ?_⟩
          clear HM2
          change wpAnyH _ _ _ _ _ _ _ (Act.put _ (some 6) _) _
          (try simp only [Act.put, List.setIfInBounds_toArray, List.set_cons_zero, List.set_cons_succ])
          refine wpAnyH_all (rs := [11]) (by kernel_rfl) (by simp) ?_
          intro i hi
          obtain rfl := List.mem_singleton.1 hi
          refine wpOp_of rfl rfl ?_
          refine w_call (f := 9) (args := #[.slice (some ⟨g, 0, none⟩) m m, .int .i64 p, .int .i64 q, .bool true]) (fun w => rfl) (by go_simp) ?_
          refine (row_t (some ⟨g, 0, none⟩) m m ys p q T R ff b0 b1 b2 b3 d0 d1 d2 d3 d4 d5 d6 d7 hT hR hf hb0 hb1 hb2 hb3 hd0 hd1 hd2 hd3 hd4 hd5 hd6 hd7 _ (HM3.out.byteRow (.s (.s .z)) HY.out)).mono ?_
          rintro e w3 ⟨rfl, hb⟩
          have HM4 := Lib.hid (HM3.out.call hb)
          refine ⟨_, rfl, HM4.out.forget.forget, ?_⟩
          clear hb HM3
          change wpAnyH _ _ _ _ _ _ _ (Act.put _ (some 34) _) _
          (try simp only [Act.put, List.setIfInBounds_toArray, List.set_cons_zero, List.set_cons_succ])
          refine wpAnyH_all (rs := [14]) (by kernel_rfl) (by simp) ?_
          intro i hi
          obtain rfl := List.mem_singleton.1 hi
          refine wpOp_of rfl rfl ?_
          refine w_lay HM4 rfl rfl rfl .z .z agg8.size rfl rfl rfl rfl ?_
          intro w4 HM5
          refine ⟨HM5.out.forget.forget, ?_⟩
          clear HM4
          refine wpAnyH_all (rs := [15]) (by kernel_rfl) (by simp) ?_
          intro i hi
          obtain rfl := List.mem_singleton.1 hi
          refine wpOp_of rfl rfl ?_
          refine w_lay HM5 rfl rfl rfl (.s .z) (.s .z) agg8.size rfl rfl rfl rfl ?_
          intro w5 HM6
          refine ⟨HM6.out.forget.forget, ?_⟩
          clear HM5
          refine wpAnyH_done (by kernel_rfl) ?_ _
          go_wp2_with fail
          go_meet
          exact ⟨ga, gb, rfl, rfl, (Lib.hid HM6.out.swap2)⟩
    · refine wpOp_of rfl rfl ?_
      refine w_alloc HM0 rfl zero8 ?_
      intro w0 ga HM1
      refine ⟨HM1.out.forget, ?_⟩
      clear HM0
      change wpAnyH _ _ _ _ _ _ _ (Act.put _ (some 6) _) _
      (try simp only [Act.put, List.setIfInBounds_toArray, List.set_cons_zero, List.set_cons_succ])
      refine wpAnyH_all (rs := [5, 13]) (by kernel_rfl) (by simp) ?_
      intro i hi
      simp only [List.mem_cons, List.not_mem_nil, or_false] at hi
      rcases hi with rfl | rfl
      · refine wpOp_of rfl rfl ?_
        refine w_call (f := 9) (args := #[.slice (some ⟨g, 0, none⟩) m m, .int .i64 p, .int .i64 q, .bool false]) (fun w => rfl) (by go_simp) ?_
        refine (row_f (some ⟨g, 0, none⟩) m m ys p q T R ff b0 b1 b2 b3 d0 d1 d2 d3 d4 d5 d6 d7 hT hR hf hb0 hb1 hb2 hb3 hd0 hd1 hd2 hd3 hd4 hd5 hd6 hd7 _ (HM1.out.byteRow (.s .z) HY.out)).mono ?_
        rintro e w1 ⟨rfl, hb⟩
        have HM2 := Lib.hid (HM1.out.call hb)
        refine ⟨_, rfl, HM2.out.forget, ?_⟩
        clear hb HM1
        change wpAnyH _ _ _ _ _ _ _ (Act.put _ (some 28) _) _
        (try simp only [Act.put, List.setIfInBounds_toArray, List.set_cons_zero, List.set_cons_succ])
        refine wpAnyH_all (rs := [11, 13]) (by kernel_rfl) (by simp) ?_
        intro i hi
        simp only [List.mem_cons, List.not_mem_nil, or_false] at hi
        rcases hi with rfl | rfl
        · refine wpOp_of rfl rfl ?_
          refine w_call (f := 9) (args := #[.slice (some ⟨g, 0, none⟩) m m, .int .i64 p, .int .i64 q, .bool true]) (fun w => rfl) (by go_simp) ?_
          refine (row_t (some ⟨g, 0, none⟩) m m ys p q T R ff b0 b1 b2 b3 d0 d1 d2 d3 d4 d5 d6 d7 hT hR hf hb0 hb1 hb2 hb3 hd0 hd1 hd2 hd3 hd4 hd5 hd6 hd7 _ (HM2.out.byteRow (.s .z) HY.out)).mono ?_
          rintro e w2 ⟨rfl, hb⟩
          have HM3 := Lib.hid (HM2.out.call hb)
          refine ⟨_, rfl, HM3.out.forget, ?_⟩
          clear hb HM2
          change wpAnyH _ _ _ _ _ _ _ (Act.put _ (some 34) _) _
          (try simp only [Act.put, List.setIfInBounds_toArray, List.set_cons_zero, List.set_cons_succ])
          refine wpAnyH_all (rs := [13]) (by kernel_rfl) (by simp) ?_
          intro i hi
          obtain rfl := List.mem_singleton.1 hi
          refine wpOp_of rfl rfl ?_
          refine w_alloc HM3 rfl zero8 ?_
          intro w3 gb HM4
          refine ⟨HM4.out.forget.forget, ?_⟩
          clear HM3
          change wpAnyH _ _ _ _ _ _ _ (Act.put _ (some 7) _) _
          (try simp only [Act.put, List.setIfInBounds_toArray, List.set_cons_zero, List.set_cons_succ])
          refine wpAnyH_all (rs := [14]) (by kernel_rfl) (by simp) ?_
          intro i hi
          obtain rfl := List.mem_singleton.1 hi
          refine wpOp_of rfl rfl ?_
          refine w_lay HM4 rfl rfl rfl (.s .z) (.s .z) agg8.size rfl rfl rfl rfl ?_
          intro w4 HM5
          refine ⟨HM5.out.forget.forget, ?_⟩
          clear HM4
          refine wpAnyH_all (rs := [15]) (by kernel_rfl) (by simp) ?_
          intro i hi
          obtain rfl := List.mem_singleton.1 hi
          refine wpOp_of rfl rfl ?_
          refine w_lay HM5 rfl rfl rfl .z .z agg8.size rfl rfl rfl rfl ?_
          intro w5 HM6
          refine ⟨HM6.out.forget.forget, ?_⟩
          clear HM5
          refine wpAnyH_done (by kernel_rfl) ?_ _
          go_wp2_with fail
          go_meet
          exact ⟨ga, gb, rfl, rfl, HM6⟩
        · refine wpOp_of rfl rfl ?_
          refine w_alloc HM2 rfl zero8 ?_
          intro w2 gb HM3
          refine ⟨HM3.out.forget.forget, ?_⟩
          clear HM2
          change wpAnyH _ _ _ _ _ _ _ (Act.put _ (some 7) _) _
          (try simp only [Act.put, List.setIfInBounds_toArray, List.set_cons_zero, List.set_cons_succ])
          refine wpAnyH_all (rs := [11]) (by kernel_rfl) (by simp) ?_
          intro i hi
          obtain rfl := List.mem_singleton.1 hi
          refine wpOp_of rfl rfl ?_
          refine w_call (f := 9) (args := #[.slice (some ⟨g, 0, none⟩) m m, .int .i64 p, .int .i64 q, .bool true]) (fun w => rfl) (by go_simp) ?_
          refine (row_t (some ⟨g, 0, none⟩) m m ys p q T R ff b0 b1 b2 b3 d0 d1 d2 d3 d4 d5 d6 d7 hT hR hf hb0 hb1 hb2 hb3 hd0 hd1 hd2 hd3 hd4 hd5 hd6 hd7 _ (HM3.out.byteRow (.s (.s .z)) HY.out)).mono ?_
          rintro e w3 ⟨rfl, hb⟩
          have HM4 := Lib.hid (HM3.out.call hb)
          refine ⟨_, rfl, HM4.out.forget.forget, ?_⟩
          clear hb HM3
          change wpAnyH _ _ _ _ _ _ _ (Act.put _ (some 34) _) _
          (try simp only [Act.put, List.setIfInBounds_toArray, List.set_cons_zero, List.set_cons_succ])
          refine wpAnyH_all (rs := [14]) (by kernel_rfl) (by simp) ?_
          intro i hi
          obtain rfl := List.mem_singleton.1 hi
          refine wpOp_of rfl rfl ?_
          refine w_lay HM4 rfl rfl rfl (.s .z) (.s .z) agg8.size rfl rfl rfl rfl ?_
          intro w4 HM5
          refine ⟨HM5.out.forget.forget, ?_⟩
          clear HM4
          refine wpAnyH_all (rs := [15]) (by kernel_rfl) (by simp) ?_
          intro i hi
          obtain rfl := List.mem_singleton.1 hi
          refine wpOp_of rfl rfl ?_
          refine w_lay HM5 rfl rfl rfl .z .z agg8.size rfl rfl rfl rfl ?_
          intro w5 HM6
          refine ⟨HM6.out.forget.forget, ?_⟩
          clear HM5
          refine wpAnyH_done (by kernel_rfl) ?_ _
          go_wp2_with fail
          go_meet
          exact ⟨ga, gb, rfl, rfl, HM6⟩
      · refine wpOp_of rfl rfl ?_
        refine w_alloc HM1 rfl zero8 ?_
        intro w1 gb HM2
        refine ⟨HM2.out.forget.forget, ?_⟩
        clear HM1
        change wpAnyH _ _ _ _ _ _ _ (Act.put _ (some 7) _) _
        (try simp only [Act.put, List.setIfInBounds_toArray, List.set_cons_zero, List.set_cons_succ])
        refine wpAnyH_all (rs := [5]) (by kernel_rfl) (by simp) ?_
        intro i hi
        obtain rfl := List.mem_singleton.1 hi
        refine wpOp_of rfl rfl ?_
        refine w_call (f := 9) (args := #[.slice (some ⟨g, 0, none⟩) m m, .int .i64 p, .int .i64 q, .bool false]) (fun w => rfl) (by go_simp) ?_
        refine (row_f (some ⟨g, 0, none⟩) m m ys p q T R ff b0 b1 b2 b3 d0 d1 d2 d3 d4 d5 d6 d7 hT hR hf hb0 hb1 hb2 hb3 hd0 hd1 hd2 hd3 hd4 hd5 hd6 hd7 _ (HM2.out.byteRow (.s (.s .z)) HY.out)).mono ?_
        rintro e w2 ⟨rfl, hb⟩
        have HM3 := Lib.hid (HM2.out.call hb)
        refine ⟨_, rfl, HM3.out.forget.forget, ?_⟩
        clear hb HM2
        change wpAnyH _ _ _ _ _ _ _ (Act.put _ (some 28) _) _
        (try simp only [Act.put, List.setIfInBounds_toArray, List.set_cons_zero, List.set_cons_succ])
        refine wpAnyH_all (rs := [11]) (by kernel_rfl) (by simp) ?_
        intro i hi
        obtain rfl := List.mem_singleton.1 hi
        refine wpOp_of rfl rfl ?_
        refine w_call (f := 9) (args := #[.slice (some ⟨g, 0, none⟩) m m, .int .i64 p, .int .i64 q, .bool true]) (fun w => rfl) (by go_simp) ?_
        refine (row_t (some ⟨g, 0, none⟩) m m ys p q T R ff b0 b1 b2 b3 d0 d1 d2 d3 d4 d5 d6 d7 hT hR hf hb0 hb1 hb2 hb3 hd0 hd1 hd2 hd3 hd4 hd5 hd6 hd7 _ (HM3.out.byteRow (.s (.s .z)) HY.out)).mono ?_
        rintro e w3 ⟨rfl, hb⟩
        have HM4 := Lib.hid (HM3.out.call hb)
        refine ⟨_, rfl, HM4.out.forget.forget, ?_⟩
        clear hb HM3
        change wpAnyH _ _ _ _ _ _ _ (Act.put _ (some 34) _) _
        (try simp only [Act.put, List.setIfInBounds_toArray, List.set_cons_zero, List.set_cons_succ])
        refine wpAnyH_all (rs := [14]) (by kernel_rfl) (by simp) ?_
        intro i hi
        obtain rfl := List.mem_singleton.1 hi
        refine wpOp_of rfl rfl ?_
        refine w_lay HM4 rfl rfl rfl (.s .z) (.s .z) agg8.size rfl rfl rfl rfl ?_
        intro w4 HM5
        refine ⟨HM5.out.forget.forget, ?_⟩
        clear HM4
        refine wpAnyH_all (rs := [15]) (by kernel_rfl) (by simp) ?_
        intro i hi
        obtain rfl := List.mem_singleton.1 hi
        refine wpOp_of rfl rfl ?_
        refine w_lay HM5 rfl rfl rfl .z .z agg8.size rfl rfl rfl rfl ?_
        intro w5 HM6
        refine ⟨HM6.out.forget.forget, ?_⟩
        clear HM5
        refine wpAnyH_done (by kernel_rfl) ?_ _
        go_wp2_with fail
        go_meet
        exact ⟨ga, gb, rfl, rfl, HM6⟩
    · refine wpOp_of rfl rfl ?_
      refine w_alloc HM0 rfl zero8 ?_
      intro w0 gb HM1
      refine ⟨HM1.out.forget, ?_⟩
      clear HM0
      change wpAnyH _ _ _ _ _ _ _ (Act.put _ (some 7) _) _
      (try simp only [Act.put, List.setIfInBounds_toArray, List.set_cons_zero, List.set_cons_succ])
      refine wpAnyH_all (rs := [5, 12]) (by kernel_rfl) (by simp) ?_
      intro i hi
      simp only [List.mem_cons, List.not_mem_nil, or_false] at hi
      rcases hi with rfl | rfl
      · refine wpOp_of rfl rfl ?_
        refine w_call (f := 9) (args := #[.slice (some ⟨g, 0, none⟩) m m, .int .i64 p, .int .i64 q, .bool false]) (fun w => rfl) (by go_simp) ?_
        refine (row_f (some ⟨g, 0, none⟩) m m ys p q T R ff b0 b1 b2 b3 d0 d1 d2 d3 d4 d5 d6 d7 hT hR hf hb0 hb1 hb2 hb3 hd0 hd1 hd2 hd3 hd4 hd5 hd6 hd7 _ (HM1.out.byteRow (.s .z) HY.out)).mono ?_
        rintro e w1 ⟨rfl, hb⟩
        have HM2 := Lib.hid (HM1.out.call hb)
        refine ⟨_, rfl, HM2.out.forget, ?_⟩
        clear hb HM1
        change wpAnyH _ _ _ _ _ _ _ (Act.put _ (some 28) _) _
        (try simp only [Act.put, List.setIfInBounds_toArray, List.set_cons_zero, List.set_cons_succ])
        refine wpAnyH_all (rs := [11, 12]) (by kernel_rfl) (by simp) ?_
        intro i hi
        simp only [List.mem_cons, List.not_mem_nil, or_false] at hi
        rcases hi with rfl | rfl
        · refine wpOp_of rfl rfl ?_
          refine w_call (f := 9) (args := #[.slice (some ⟨g, 0, none⟩) m m, .int .i64 p, .int .i64 q, .bool true]) (fun w => rfl) (by go_simp) ?_
          refine (row_t (some ⟨g, 0, none⟩) m m ys p q T R ff b0 b1 b2 b3 d0 d1 d2 d3 d4 d5 d6 d7 hT hR hf hb0 hb1 hb2 hb3 hd0 hd1 hd2 hd3 hd4 hd5 hd6 hd7 _ (HM2.out.byteRow (.s .z) HY.out)).mono ?_
          rintro e w2 ⟨rfl, hb⟩
          have HM3 := Lib.hid (HM2.out.call hb)
          refine ⟨_, rfl, HM3.out.forget, ?_⟩
          clear hb HM2
          change wpAnyH _ _ _ _ _ _ _ (Act.put _ (some 34) _) _
          (try simp only [Act.put, List.setIfInBounds_toArray, List.set_cons_zero, List.set_cons_succ])
          refine wpAnyH_all (rs := [12]) (by kernel_rfl) (by simp) ?_
          intro i hi
          obtain rfl := List.mem_singleton.1 hi
          refine wpOp_of rfl rfl ?_
          refine w_alloc HM3 rfl zero8 ?_
          intro w3 ga HM4
          refine ⟨HM4.out.forget.forget, ?_⟩
          clear HM3
          change wpAnyH _ _ _ _ _ _ _ (Act.put _ (some 6) _) _
          (try simp only [Act.put, List.setIfInBounds_toArray, List.set_cons_zero, List.set_cons_succ])
          refine wpAnyH_all (rs := [14]) (by kernel_rfl) (by simp) ?_
          intro i hi
          obtain rfl := List.mem_singleton.1 hi
          refine wpOp_of rfl rfl ?_
          refine w_lay HM4 rfl rfl rfl .z .z agg8.size rfl rfl rfl rfl ?_
          intro w4 HM5
          refine ⟨HM5.out.forget.forget, ?_⟩
          clear HM4
          refine wpAnyH_all (rs := [15]) (by kernel_rfl) (by simp) ?_
          intro i hi
          obtain rfl := List.mem_singleton.1 hi
          refine wpOp_of rfl rfl ?_
          refine w_lay HM5 rfl rfl rfl (.s .z) (.s .z) agg8.size rfl rfl rfl rfl ?_
          intro w5 HM6
          refine ⟨HM6.out.forget.forget, ?_⟩
          clear HM5
          refine wpAnyH_done (by kernel_rfl) ?_ _
          go_wp2_with fail
          go_meet
          exact ⟨ga, gb, rfl, rfl, (Lib.hid HM6.out.swap2)⟩
        · refine wpOp_of rfl rfl ?_
          refine w_alloc HM2 rfl zero8 ?_
          intro w2 ga HM3
          refine ⟨HM3.out.forget.forget, ?_⟩
          clear HM2
          change wpAnyH _ _ _ _ _ _ _ (Act.put _ (some 6) _) _
          (try simp only [Act.put, List.setIfInBounds_toArray, List.set_cons_zero, List.set_cons_succ])
          refine wpAnyH_all (rs := [11]) (by kernel_rfl) (by simp) ?_
          intro i hi
          obtain rfl := List.mem_singleton.1 hi
          refine wpOp_of rfl rfl ?_
          refine w_call (f := 9) (args := #[.slice (some ⟨g, 0, none⟩) m m, .int .i64 p, .int .i64 q, .bool true]) (fun w => rfl) (by go_simp) ?_
          refine (row_t (some ⟨g, 0, none⟩) m m ys p q T R ff b0 b1 b2 b3 d0 d1 d2 d3 d4 d5 d6 d7 hT hR hf hb0 hb1 hb2 hb3 hd0 hd1 hd2 hd3 hd4 hd5 hd6 hd7 _ (HM3.out.byteRow (.s (.s .z)) HY.out)).mono ?_
          rintro e w3 ⟨rfl, hb⟩
          have HM4 := Lib.hid (HM3.out.call hb)
          refine ⟨_, rfl, HM4.out.forget.forget, ?_⟩
          clear hb HM3
          change wpAnyH _ _ _ _ _ _ _ (Act.put _ (some 34) _) _
          (try simp only [Act.put, List.setIfInBounds_toArray, List.set_cons_zero, List.set_cons_succ])
          refine wpAnyH_all (rs := [14]) (by kernel_rfl) (by simp) ?_
          intro i hi
          obtain rfl := List.mem_singleton.1 hi
          refine wpOp_of rfl rfl ?_
          refine w_lay HM4 rfl rfl rfl .z .z agg8.size rfl rfl rfl rfl ?_
          intro w4 HM5
          refine ⟨HM5.out.forget.forget, ?_⟩
          clear HM4
          refine wpAnyH_all (rs := [15]) (by kernel_rfl) (by simp) ?_
          intro i hi
          obtain rfl := List.mem_singleton.1 hi
          refine wpOp_of rfl rfl ?_
          refine w_lay HM5 rfl rfl rfl (.s .z) (.s .z) agg8.size rfl rfl rfl rfl ?_
          intro w5 HM6
          refine ⟨HM6.out.forget.forget, ?_⟩
          clear HM5
          refine wpAnyH_done (by kernel_rfl) ?_ _
          go_wp2_with fail
          go_meet
          exact ⟨ga, gb, rfl, rfl, (Lib.hid HM6.out.swap2)⟩
      · refine wpOp_of rfl rfl ?_
        refine w_alloc HM1 rfl zero8 ?_
        intro w1 ga HM2
        refine ⟨HM2.out.forget.forget, ?_⟩
        clear HM1
        change wpAnyH _ _ _ _ _ _ _ (Act.put _ (some 6) _) _
        (try simp only [Act.put, List.setIfInBounds_toArray, List.set_cons_zero, List.set_cons_succ])
        refine wpAnyH_all (rs := [5]) (by kernel_rfl) (by simp) ?_
        intro i hi
        obtain rfl := List.mem_singleton.1 hi
        refine wpOp_of rfl rfl ?_
        refine w_call (f := 9) (args := #[.slice (some ⟨g, 0, none⟩) m m, .int .i64 p, .int .i64 q, .bool false]) (fun w => rfl) (by go_simp) ?_
        refine (row_f (some ⟨g, 0, none⟩) m m ys p q T R ff b0 b1 b2 b3 d0 d1 d2 d3 d4 d5 d6 d7 hT hR hf hb0 hb1 hb2 hb3 hd0 hd1 hd2 hd3 hd4 hd5 hd6 hd7 _ (HM2.out.byteRow (.s (.s .z)) HY.out)).mono ?_
        rintro e w2 ⟨rfl, hb⟩
        have HM3 := Lib.hid (HM2.out.call hb)
        refine ⟨_, rfl, HM3.out.forget.forget, ?_⟩
        clear hb HM2
        change wpAnyH _ _ _ _ _ _ _ (Act.put _ (some 28) _) _
        (try simp only [Act.put, List.setIfInBounds_toArray, List.set_cons_zero, List.set_cons_succ])
        refine wpAnyH_all (rs := [11]) (by kernel_rfl) (by simp) ?_
        intro i hi
        obtain rfl := List.mem_singleton.1 hi
        refine wpOp_of rfl rfl ?_
        refine w_call (f := 9) (args := #[.slice (some ⟨g, 0, none⟩) m m, .int .i64 p, .int .i64 q, .bool true]) (fun w => rfl) (by go_simp) ?_
        refine (row_t (some ⟨g, 0, none⟩) m m ys p q T R ff b0 b1 b2 b3 d0 d1 d2 d3 d4 d5 d6 d7 hT hR hf hb0 hb1 hb2 hb3 hd0 hd1 hd2 hd3 hd4 hd5 hd6 hd7 _ (HM3.out.byteRow (.s (.s .z)) HY.out)).mono ?_
        rintro e w3 ⟨rfl, hb⟩
        have HM4 := Lib.hid (HM3.out.call hb)
        refine ⟨_, rfl, HM4.out.forget.forget, ?_⟩
        clear hb HM3
        change wpAnyH _ _ _ _ _ _ _ (Act.put _ (some 34) _) _
        (try simp only [Act.put, List.setIfInBounds_toArray, List.set_cons_zero, List.set_cons_succ])
        refine wpAnyH_all (rs := [14]) (by kernel_rfl) (by simp) ?_
        intro i hi
        obtain rfl := List.mem_singleton.1 hi
        refine wpOp_of rfl rfl ?_
        refine w_lay HM4 rfl rfl rfl .z .z agg8.size rfl rfl rfl rfl ?_
        intro w4 HM5
        refine ⟨HM5.out.forget.forget, ?_⟩
        clear HM4
        refine wpAnyH_all (rs := [15]) (by kernel_rfl) (by simp) ?_
        intro i hi
        obtain rfl := List.mem_singleton.1 hi
        refine wpOp_of rfl rfl ?_
        refine w_lay HM5 rfl rfl rfl (.s .z) (.s .z) agg8.size rfl rfl rfl rfl ?_
        intro w5 HM6
        refine ⟨HM6.out.forget.forget, ?_⟩
        clear HM5
        refine wpAnyH_done (by kernel_rfl) ?_ _
        go_wp2_with fail
        go_meet
        exact ⟨ga, gb, rfl, rfl, (Lib.hid HM6.out.swap2)⟩
  case' rest =>
    clear HM
    obtain ⟨ga, gb, rfl, rfl, HM⟩ := hcut
    go_upto_region 8 with fail
    go_loopw [35] (fun i wr => ∃ j : Nat, j ≤ 8 ∧ i = .int .i64 (j : Int) ∧ Hid (Own w wr ((gb, 26, [.int .u8 (d7 : Int), .int .u8 (d6 : Int), .int .u8 (d5 : Int), .int .u8 (d4 : Int), .int .u8 (d3 : Int), .int .u8 (d2 : Int), .int .u8 (d1 : Int), .int .u8 (d0 : Int)]) :: (ga, 26, [.int .u8 (d0 : Int), .int .u8 (d1 : Int), .int .u8 (d2 : Int), .int .u8 (d3 : Int), .int .u8 (d4 : Int), .int .u8 (d5 : Int), .int .u8 (d6 : Int), .int .u8 (d7 : Int)]) :: [(g, 5, b8 m ys), (g2, 31, [.int .i64 p, .int .i64 q]), (g1, 30, [.slice a1 n1 c1, .slice a2 n2 c2, .int .i64 many, .int .i64 at_])]))) (fun i _ => 8 - (intOf i).toNat)
    case atStart => exact ⟨0, by omega, rfl, HM⟩
    case round =>
      clear HM
      obtain ⟨j, hj, rfl, HM⟩ := hrel
      obtain rfl | rfl | rfl | rfl | rfl | rfl | rfl | rfl | rfl : j = 0 ∨ j = 1 ∨ j = 2 ∨ j = 3 ∨ j = 4 ∨ j = 5 ∨ j = 6 ∨ j = 7 ∨ j = 8 := by omega
      · have K : ((15 : Int) < (d0 : Int)) = False := eq_iff_iff.2 D0.out
        go_upto_region 10 with fail
        (refine own_region HM (by kernel_rfl) (by kernel_rfl) ?_; (try simp only [Act.put, List.setIfInBounds_toArray, List.set_cons_zero, List.set_cons_succ]); repeat ((fail_if_success (with_reducible refine wpQuiet_nil ?_)); first | go_big_quiet_skip | (go_big_quiet_want; first | ((with_reducible apply quiet_cell); exact rfl; (first | (with_reducible exact oneU8) | (with_reducible exact oneInt)); (first | with_reducible exact .z | with_reducible exact .s .z | with_reducible exact .s (.s .z) | with_reducible exact .s (.s (.s .z)) | with_reducible exact .s (.s (.s (.s .z))) | with_reducible exact .s (.s (.s (.s (.s .z))))); (focus repeat' (first | with_reducible exact .z | with_reducible apply Drop.s)); go_big_quiet_op; go_big_quiet_on) | (go_big_quiet_op; go_big_quiet_on) | (go_big_quiet_op; go_big_quiet_on) | (go_big_quiet_op; refine ⟨_, fun _ _ => rfl, ?_⟩; go_big_quiet_on))))
        refine wpQuiet_nil ?_
        intro w' HM'
        clear HM; have HM := HM'; clear HM'
        clear K
        go_wp2_with fail
        go_roundw
        case rel => exact ⟨1, by omega, rfl, HM⟩
        case measure => decide
      · have K : ((15 : Int) < (d1 : Int)) = False := eq_iff_iff.2 D1.out
        go_upto_region 10 with fail
        (refine own_region HM (by kernel_rfl) (by kernel_rfl) ?_; (try simp only [Act.put, List.setIfInBounds_toArray, List.set_cons_zero, List.set_cons_succ]); repeat ((fail_if_success (with_reducible refine wpQuiet_nil ?_)); first | go_big_quiet_skip | (go_big_quiet_want; first | ((with_reducible apply quiet_cell); exact rfl; (first | (with_reducible exact oneU8) | (with_reducible exact oneInt)); (first | with_reducible exact .z | with_reducible exact .s .z | with_reducible exact .s (.s .z) | with_reducible exact .s (.s (.s .z)) | with_reducible exact .s (.s (.s (.s .z))) | with_reducible exact .s (.s (.s (.s (.s .z))))); (focus repeat' (first | with_reducible exact .z | with_reducible apply Drop.s)); go_big_quiet_op; go_big_quiet_on) | (go_big_quiet_op; go_big_quiet_on) | (go_big_quiet_op; go_big_quiet_on) | (go_big_quiet_op; refine ⟨_, fun _ _ => rfl, ?_⟩; go_big_quiet_on))))
        refine wpQuiet_nil ?_
        intro w' HM'
        clear HM; have HM := HM'; clear HM'
        clear K
        go_wp2_with fail
        go_roundw
        case rel => exact ⟨2, by omega, rfl, HM⟩
        case measure => decide
      · have K : ((15 : Int) < (d2 : Int)) = False := eq_iff_iff.2 D2.out
        go_upto_region 10 with fail
        (refine own_region HM (by kernel_rfl) (by kernel_rfl) ?_; (try simp only [Act.put, List.setIfInBounds_toArray, List.set_cons_zero, List.set_cons_succ]); repeat ((fail_if_success (with_reducible refine wpQuiet_nil ?_)); first | go_big_quiet_skip | (go_big_quiet_want; first | ((with_reducible apply quiet_cell); exact rfl; (first | (with_reducible exact oneU8) | (with_reducible exact oneInt)); (first | with_reducible exact .z | with_reducible exact .s .z | with_reducible exact .s (.s .z) | with_reducible exact .s (.s (.s .z)) | with_reducible exact .s (.s (.s (.s .z))) | with_reducible exact .s (.s (.s (.s (.s .z))))); (focus repeat' (first | with_reducible exact .z | with_reducible apply Drop.s)); go_big_quiet_op; go_big_quiet_on) | (go_big_quiet_op; go_big_quiet_on) | (go_big_quiet_op; go_big_quiet_on) | (go_big_quiet_op; refine ⟨_, fun _ _ => rfl, ?_⟩; go_big_quiet_on))))
        refine wpQuiet_nil ?_
        intro w' HM'
        clear HM; have HM := HM'; clear HM'
        clear K
        go_wp2_with fail
        go_roundw
        case rel => exact ⟨3, by omega, rfl, HM⟩
        case measure => decide
      · have K : ((15 : Int) < (d3 : Int)) = False := eq_iff_iff.2 D3.out
        go_upto_region 10 with fail
        (refine own_region HM (by kernel_rfl) (by kernel_rfl) ?_; (try simp only [Act.put, List.setIfInBounds_toArray, List.set_cons_zero, List.set_cons_succ]); repeat ((fail_if_success (with_reducible refine wpQuiet_nil ?_)); first | go_big_quiet_skip | (go_big_quiet_want; first | ((with_reducible apply quiet_cell); exact rfl; (first | (with_reducible exact oneU8) | (with_reducible exact oneInt)); (first | with_reducible exact .z | with_reducible exact .s .z | with_reducible exact .s (.s .z) | with_reducible exact .s (.s (.s .z)) | with_reducible exact .s (.s (.s (.s .z))) | with_reducible exact .s (.s (.s (.s (.s .z))))); (focus repeat' (first | with_reducible exact .z | with_reducible apply Drop.s)); go_big_quiet_op; go_big_quiet_on) | (go_big_quiet_op; go_big_quiet_on) | (go_big_quiet_op; go_big_quiet_on) | (go_big_quiet_op; refine ⟨_, fun _ _ => rfl, ?_⟩; go_big_quiet_on))))
        refine wpQuiet_nil ?_
        intro w' HM'
        clear HM; have HM := HM'; clear HM'
        clear K
        go_wp2_with fail
        go_roundw
        case rel => exact ⟨4, by omega, rfl, HM⟩
        case measure => decide
      · have K : ((15 : Int) < (d4 : Int)) = False := eq_iff_iff.2 D4.out
        go_upto_region 10 with fail
        (refine own_region HM (by kernel_rfl) (by kernel_rfl) ?_; (try simp only [Act.put, List.setIfInBounds_toArray, List.set_cons_zero, List.set_cons_succ]); repeat ((fail_if_success (with_reducible refine wpQuiet_nil ?_)); first | go_big_quiet_skip | (go_big_quiet_want; first | ((with_reducible apply quiet_cell); exact rfl; (first | (with_reducible exact oneU8) | (with_reducible exact oneInt)); (first | with_reducible exact .z | with_reducible exact .s .z | with_reducible exact .s (.s .z) | with_reducible exact .s (.s (.s .z)) | with_reducible exact .s (.s (.s (.s .z))) | with_reducible exact .s (.s (.s (.s (.s .z))))); (focus repeat' (first | with_reducible exact .z | with_reducible apply Drop.s)); go_big_quiet_op; go_big_quiet_on) | (go_big_quiet_op; go_big_quiet_on) | (go_big_quiet_op; go_big_quiet_on) | (go_big_quiet_op; refine ⟨_, fun _ _ => rfl, ?_⟩; go_big_quiet_on))))
        refine wpQuiet_nil ?_
        intro w' HM'
        clear HM; have HM := HM'; clear HM'
        clear K
        go_wp2_with fail
        go_roundw
        case rel => exact ⟨5, by omega, rfl, HM⟩
        case measure => decide
      · have K : ((15 : Int) < (d5 : Int)) = False := eq_iff_iff.2 D5.out
        go_upto_region 10 with fail
        (refine own_region HM (by kernel_rfl) (by kernel_rfl) ?_; (try simp only [Act.put, List.setIfInBounds_toArray, List.set_cons_zero, List.set_cons_succ]); repeat ((fail_if_success (with_reducible refine wpQuiet_nil ?_)); first | go_big_quiet_skip | (go_big_quiet_want; first | ((with_reducible apply quiet_cell); exact rfl; (first | (with_reducible exact oneU8) | (with_reducible exact oneInt)); (first | with_reducible exact .z | with_reducible exact .s .z | with_reducible exact .s (.s .z) | with_reducible exact .s (.s (.s .z)) | with_reducible exact .s (.s (.s (.s .z))) | with_reducible exact .s (.s (.s (.s (.s .z))))); (focus repeat' (first | with_reducible exact .z | with_reducible apply Drop.s)); go_big_quiet_op; go_big_quiet_on) | (go_big_quiet_op; go_big_quiet_on) | (go_big_quiet_op; go_big_quiet_on) | (go_big_quiet_op; refine ⟨_, fun _ _ => rfl, ?_⟩; go_big_quiet_on))))
        refine wpQuiet_nil ?_
        intro w' HM'
        clear HM; have HM := HM'; clear HM'
        clear K
        go_wp2_with fail
        go_roundw
        case rel => exact ⟨6, by omega, rfl, HM⟩
        case measure => decide
      · have K : ((15 : Int) < (d6 : Int)) = False := eq_iff_iff.2 D6.out
        go_upto_region 10 with fail
        (refine own_region HM (by kernel_rfl) (by kernel_rfl) ?_; (try simp only [Act.put, List.setIfInBounds_toArray, List.set_cons_zero, List.set_cons_succ]); repeat ((fail_if_success (with_reducible refine wpQuiet_nil ?_)); first | go_big_quiet_skip | (go_big_quiet_want; first | ((with_reducible apply quiet_cell); exact rfl; (first | (with_reducible exact oneU8) | (with_reducible exact oneInt)); (first | with_reducible exact .z | with_reducible exact .s .z | with_reducible exact .s (.s .z) | with_reducible exact .s (.s (.s .z)) | with_reducible exact .s (.s (.s (.s .z))) | with_reducible exact .s (.s (.s (.s (.s .z))))); (focus repeat' (first | with_reducible exact .z | with_reducible apply Drop.s)); go_big_quiet_op; go_big_quiet_on) | (go_big_quiet_op; go_big_quiet_on) | (go_big_quiet_op; go_big_quiet_on) | (go_big_quiet_op; refine ⟨_, fun _ _ => rfl, ?_⟩; go_big_quiet_on))))
        refine wpQuiet_nil ?_
        intro w' HM'
        clear HM; have HM := HM'; clear HM'
        clear K
        go_wp2_with fail
        go_roundw
        case rel => exact ⟨7, by omega, rfl, HM⟩
        case measure => decide
      · have K : ((15 : Int) < (d7 : Int)) = False := eq_iff_iff.2 D7.out
        go_upto_region 10 with fail
        (refine own_region HM (by kernel_rfl) (by kernel_rfl) ?_; (try simp only [Act.put, List.setIfInBounds_toArray, List.set_cons_zero, List.set_cons_succ]); repeat ((fail_if_success (with_reducible refine wpQuiet_nil ?_)); first | go_big_quiet_skip | (go_big_quiet_want; first | ((with_reducible apply quiet_cell); exact rfl; (first | (with_reducible exact oneU8) | (with_reducible exact oneInt)); (first | with_reducible exact .z | with_reducible exact .s .z | with_reducible exact .s (.s .z) | with_reducible exact .s (.s (.s .z)) | with_reducible exact .s (.s (.s (.s .z))) | with_reducible exact .s (.s (.s (.s (.s .z))))); (focus repeat' (first | with_reducible exact .z | with_reducible apply Drop.s)); go_big_quiet_op; go_big_quiet_on) | (go_big_quiet_op; go_big_quiet_on) | (go_big_quiet_op; go_big_quiet_on) | (go_big_quiet_op; refine ⟨_, fun _ _ => rfl, ?_⟩; go_big_quiet_on))))
        refine wpQuiet_nil ?_
        intro w' HM'
        clear HM; have HM := HM'; clear HM'
        clear K
        go_wp2_with fail
        go_roundw
        case rel => exact ⟨8, by omega, rfl, HM⟩
        case measure => decide
      · have hs := Lib.hid (same8_run 0 0 0 0 0 0 0 0)
        go_wp2_with (first | ((with_reducible apply own_box HM); exact rfl; (conv => lhs; whnf); exact rfl; exact rfl; (first | (clear tg1; intro w' g1 HM') | (clear tg2; intro w' g2 HM') | (clear tg3; intro w' g3 HM') | (clear tg4; intro w' g4 HM') | intro w' g' HM'); clear HM; have HM := HM'; clear HM'; all_goals skip) | ((with_reducible apply own_cell HM); exact rfl; exact rfl; (first | (with_reducible exact oneInt)); (first | with_reducible exact .z | with_reducible exact .s .z | with_reducible exact .s (.s .z) | with_reducible exact .s (.s (.s .z)) | with_reducible exact .s (.s (.s (.s .z))) | with_reducible exact .s (.s (.s (.s (.s .z))))); (focus repeat' (first | with_reducible exact .z | with_reducible apply Drop.s)); exact rfl; all_goals skip) | ((with_reducible apply own_load HM); exact rfl; exact rfl; (first | (with_reducible exact agg2)); (first | with_reducible exact .z | with_reducible exact .s .z | with_reducible exact .s (.s .z) | with_reducible exact .s (.s (.s .z)) | with_reducible exact .s (.s (.s (.s .z))) | with_reducible exact .s (.s (.s (.s (.s .z))))); (focus repeat' (first | with_reducible exact .z | with_reducible apply Drop.s)); (focus repeat' (first | with_reducible exact .z | with_reducible apply Take.s)); exact rfl; all_goals skip) | ((with_reducible apply own_store HM); exact rfl; exact rfl; (conv => lhs; whnf); exact rfl; (first | with_reducible exact .z | with_reducible exact .s .z | with_reducible exact .s (.s .z) | with_reducible exact .s (.s (.s .z)) | with_reducible exact .s (.s (.s (.s .z))) | with_reducible exact .s (.s (.s (.s (.s .z))))); (focus repeat' (first | with_reducible exact .z | with_reducible apply Over.p | with_reducible apply Over.s)); (first | with_reducible exact .z | with_reducible exact .s .z | with_reducible exact .s (.s .z) | with_reducible exact .s (.s (.s .z)) | with_reducible exact .s (.s (.s (.s .z))) | with_reducible exact .s (.s (.s (.s (.s .z))))); (first | (with_reducible exact (agg2).size) | (with_reducible exact (oneInt).size)); exact rfl; exact rfl; exact rfl; exact rfl; intro w' HM'; clear HM; have HM := HM'; clear HM'; all_goals skip) | (go_at_call 9; (with_reducible refine (row_nil p q _).mono ?_); rintro e w' ⟨rfl, hb⟩; have HM' := Lib.hid (HM.out.call hb); clear HM hb; have HM := HM'; clear HM'; have hs0 := hs.out))
        go_ret
        exact ⟨rfl, Own.fin HM⟩

set_option maxRecDepth 100000 in
set_option maxHeartbeats 1600000 in
theorem turns_o1 (a1 a2 : Option Addr) (n1 c1 n2 c2 : Nat) (many at_ : Int) (p q : Int) (w : World) (l1 : 300 < n1) :
    Calls Try.prog 6 #[.agg #[.slice a1 n1 c1, .slice a2 n2 c2, .int .i64 many, .int .i64 at_], .agg #[.int .i64 p, .int .i64 q]] w fun e w' => e = .returned (.bool true) ∧ Below w.heap.size w w' := by
  have HM := Lib.hid (Own.start w)
  have K1 : ((300 : Int) < (n1 : Int)) = True := by rw [eq_iff_iff, iff_true]; omega
  clear l1
  go_enter Try.func6, Try.ntmps6
  go_upto_region 3 with (first | ((with_reducible apply own_box HM); exact rfl; (conv => lhs; whnf); exact rfl; exact rfl; (first | (clear tg1; intro w' g1 HM') | (clear tg2; intro w' g2 HM') | (clear tg3; intro w' g3 HM') | (clear tg4; intro w' g4 HM') | intro w' g' HM'); clear HM; have HM := HM'; clear HM'; all_goals skip) | ((with_reducible apply own_cell HM); exact rfl; exact rfl; (first | (with_reducible exact oneInt) | (with_reducible exact oneBool) | (with_reducible exact oneU8) | (with_reducible exact oneBs)); (first | with_reducible exact .z | with_reducible exact .s .z | with_reducible exact .s (.s .z) | with_reducible exact .s (.s (.s .z)) | with_reducible exact .s (.s (.s (.s .z))) | with_reducible exact .s (.s (.s (.s (.s .z))))); (focus repeat' (first | with_reducible exact .z | with_reducible apply Drop.s)); exact rfl; all_goals skip) | ((with_reducible apply own_load HM); exact rfl; exact rfl; (first | (with_reducible exact aggI) | (with_reducible exact agg2)); (first | with_reducible exact .z | with_reducible exact .s .z | with_reducible exact .s (.s .z) | with_reducible exact .s (.s (.s .z)) | with_reducible exact .s (.s (.s (.s .z))) | with_reducible exact .s (.s (.s (.s (.s .z))))); (focus repeat' (first | with_reducible exact .z | with_reducible apply Drop.s)); (focus repeat' (first | with_reducible exact .z | with_reducible apply Take.s)); exact rfl; all_goals skip) | ((with_reducible apply own_store HM); exact rfl; exact rfl; (conv => lhs; whnf); exact rfl; (first | with_reducible exact .z | with_reducible exact .s .z | with_reducible exact .s (.s .z) | with_reducible exact .s (.s (.s .z)) | with_reducible exact .s (.s (.s (.s .z))) | with_reducible exact .s (.s (.s (.s (.s .z))))); (focus repeat' (first | with_reducible exact .z | with_reducible apply Over.p | with_reducible apply Over.s)); (first | with_reducible exact .z | with_reducible exact .s .z | with_reducible exact .s (.s .z) | with_reducible exact .s (.s (.s .z)) | with_reducible exact .s (.s (.s (.s .z))) | with_reducible exact .s (.s (.s (.s (.s .z))))); (first | (with_reducible exact (aggI).size) | (with_reducible exact (agg2).size) | (with_reducible exact (oneInt).size) | (with_reducible exact (oneBool).size) | (with_reducible exact (oneU8).size) | (with_reducible exact (oneBs).size)); exact rfl; exact rfl; exact rfl; exact rfl; intro w' HM'; clear HM; have HM := HM'; clear HM'; all_goals skip) | (go_at_call 8; (with_reducible refine (alive_any _).mono ?_); rintro e w' ⟨rfl, hb⟩; have HM' := Lib.hid (HM.out.call hb); clear HM hb; have HM := HM'; clear HM'))
  (refine own_inorder HM ?_; (try simp only [Act.put, List.setIfInBounds_toArray, List.set_cons_zero, List.set_cons_succ]); repeat ((fail_if_success (with_reducible refine wpQuiet_nil ?_)); first | go_big_quiet_skip | (go_big_quiet_want; first | ((with_reducible apply quiet_load); exact rfl; (first | (with_reducible exact aggI)); (first | with_reducible exact .z | with_reducible exact .s .z | with_reducible exact .s (.s .z) | with_reducible exact .s (.s (.s .z)) | with_reducible exact .s (.s (.s (.s .z))) | with_reducible exact .s (.s (.s (.s (.s .z))))); (focus repeat' (first | with_reducible exact .z | with_reducible apply Drop.s)); (focus repeat' (first | with_reducible exact .z | with_reducible apply Take.s)); go_big_quiet_op; go_big_quiet_on) | ((with_reducible apply quiet_cell); exact rfl; (first | (with_reducible exact oneInt) | (with_reducible exact oneBool) | (with_reducible exact oneU8) | (with_reducible exact oneBs)); (first | with_reducible exact .z | with_reducible exact .s .z | with_reducible exact .s (.s .z) | with_reducible exact .s (.s (.s .z)) | with_reducible exact .s (.s (.s (.s .z))) | with_reducible exact .s (.s (.s (.s (.s .z))))); (focus repeat' (first | with_reducible exact .z | with_reducible apply Drop.s)); go_big_quiet_op; go_big_quiet_on) | (go_big_quiet_op; go_big_quiet_on) | (go_big_quiet_op; go_big_quiet_on) | (go_big_quiet_op; refine ⟨_, fun _ _ => rfl, ?_⟩; go_big_quiet_on))))
  refine wpQuiet_nil ?_
  intro w' HM'
  clear HM; have HM := HM'; clear HM'
  clear K1
  go_wp2_with fail
  go_ret
  exact ⟨rfl, Own.fin HM⟩

set_option maxRecDepth 100000 in
set_option maxHeartbeats 1600000 in
theorem turns_o2 (a1 a2 : Option Addr) (n1 c1 n2 c2 : Nat) (many at_ : Int) (p q : Int) (w : World) (l1 : n1 ≤ 300) (l2 : 300 < n2) :
    Calls Try.prog 6 #[.agg #[.slice a1 n1 c1, .slice a2 n2 c2, .int .i64 many, .int .i64 at_], .agg #[.int .i64 p, .int .i64 q]] w fun e w' => e = .returned (.bool true) ∧ Below w.heap.size w w' := by
  have HM := Lib.hid (Own.start w)
  have K1 : ((300 : Int) < (n1 : Int)) = False := by rw [eq_iff_iff, iff_false]; omega
  have K2 : ((300 : Int) < (n2 : Int)) = True := by rw [eq_iff_iff, iff_true]; omega
  clear l1 l2
  go_enter Try.func6, Try.ntmps6
  go_upto_region 3 with (first | ((with_reducible apply own_box HM); exact rfl; (conv => lhs; whnf); exact rfl; exact rfl; (first | (clear tg1; intro w' g1 HM') | (clear tg2; intro w' g2 HM') | (clear tg3; intro w' g3 HM') | (clear tg4; intro w' g4 HM') | intro w' g' HM'); clear HM; have HM := HM'; clear HM'; all_goals skip) | ((with_reducible apply own_cell HM); exact rfl; exact rfl; (first | (with_reducible exact oneInt) | (with_reducible exact oneBool) | (with_reducible exact oneU8) | (with_reducible exact oneBs)); (first | with_reducible exact .z | with_reducible exact .s .z | with_reducible exact .s (.s .z) | with_reducible exact .s (.s (.s .z)) | with_reducible exact .s (.s (.s (.s .z))) | with_reducible exact .s (.s (.s (.s (.s .z))))); (focus repeat' (first | with_reducible exact .z | with_reducible apply Drop.s)); exact rfl; all_goals skip) | ((with_reducible apply own_load HM); exact rfl; exact rfl; (first | (with_reducible exact aggI) | (with_reducible exact agg2)); (first | with_reducible exact .z | with_reducible exact .s .z | with_reducible exact .s (.s .z) | with_reducible exact .s (.s (.s .z)) | with_reducible exact .s (.s (.s (.s .z))) | with_reducible exact .s (.s (.s (.s (.s .z))))); (focus repeat' (first | with_reducible exact .z | with_reducible apply Drop.s)); (focus repeat' (first | with_reducible exact .z | with_reducible apply Take.s)); exact rfl; all_goals skip) | ((with_reducible apply own_store HM); exact rfl; exact rfl; (conv => lhs; whnf); exact rfl; (first | with_reducible exact .z | with_reducible exact .s .z | with_reducible exact .s (.s .z) | with_reducible exact .s (.s (.s .z)) | with_reducible exact .s (.s (.s (.s .z))) | with_reducible exact .s (.s (.s (.s (.s .z))))); (focus repeat' (first | with_reducible exact .z | with_reducible apply Over.p | with_reducible apply Over.s)); (first | with_reducible exact .z | with_reducible exact .s .z | with_reducible exact .s (.s .z) | with_reducible exact .s (.s (.s .z)) | with_reducible exact .s (.s (.s (.s .z))) | with_reducible exact .s (.s (.s (.s (.s .z))))); (first | (with_reducible exact (aggI).size) | (with_reducible exact (agg2).size) | (with_reducible exact (oneInt).size) | (with_reducible exact (oneBool).size) | (with_reducible exact (oneU8).size) | (with_reducible exact (oneBs).size)); exact rfl; exact rfl; exact rfl; exact rfl; intro w' HM'; clear HM; have HM := HM'; clear HM'; all_goals skip) | (go_at_call 8; (with_reducible refine (alive_any _).mono ?_); rintro e w' ⟨rfl, hb⟩; have HM' := Lib.hid (HM.out.call hb); clear HM hb; have HM := HM'; clear HM'))
  (refine own_inorder HM ?_; (try simp only [Act.put, List.setIfInBounds_toArray, List.set_cons_zero, List.set_cons_succ]); repeat ((fail_if_success (with_reducible refine wpQuiet_nil ?_)); first | go_big_quiet_skip | (go_big_quiet_want; first | ((with_reducible apply quiet_load); exact rfl; (first | (with_reducible exact aggI)); (first | with_reducible exact .z | with_reducible exact .s .z | with_reducible exact .s (.s .z) | with_reducible exact .s (.s (.s .z)) | with_reducible exact .s (.s (.s (.s .z))) | with_reducible exact .s (.s (.s (.s (.s .z))))); (focus repeat' (first | with_reducible exact .z | with_reducible apply Drop.s)); (focus repeat' (first | with_reducible exact .z | with_reducible apply Take.s)); go_big_quiet_op; go_big_quiet_on) | ((with_reducible apply quiet_cell); exact rfl; (first | (with_reducible exact oneInt) | (with_reducible exact oneBool) | (with_reducible exact oneU8) | (with_reducible exact oneBs)); (first | with_reducible exact .z | with_reducible exact .s .z | with_reducible exact .s (.s .z) | with_reducible exact .s (.s (.s .z)) | with_reducible exact .s (.s (.s (.s .z))) | with_reducible exact .s (.s (.s (.s (.s .z))))); (focus repeat' (first | with_reducible exact .z | with_reducible apply Drop.s)); go_big_quiet_op; go_big_quiet_on) | (go_big_quiet_op; go_big_quiet_on) | (go_big_quiet_op; go_big_quiet_on) | (go_big_quiet_op; refine ⟨_, fun _ _ => rfl, ?_⟩; go_big_quiet_on))))
  refine wpQuiet_nil ?_
  intro w' HM'
  clear HM; have HM := HM'; clear HM'
  clear K1 K2
  go_wp2_with fail
  go_ret
  exact ⟨rfl, Own.fin HM⟩

theorem turns_any (a1 a2 : Option Addr) (n1 c1 n2 c2 : Nat) (many at_ : Int) (xs1 xs2 : Nat → Nat) (p q : Int) (w : World) (h1 : ByteRow w a1 n1 xs1) (h2 : ByteRow w a2 n2 xs2) :
    Calls Try.prog 6 #[.agg #[.slice a1 n1 c1, .slice a2 n2 c2, .int .i64 many, .int .i64 at_], .agg #[.int .i64 p, .int .i64 q]] w fun e w' => e = .returned (.bool true) ∧ Below w.heap.size w w' := by
  by_cases l1 : n1 ≤ 300
  · by_cases l2 : n2 ≤ 300
    · exact turns_in a1 a2 n1 c1 n2 c2 many at_ xs1 xs2 p q w h1 h2 l1 l2
    · exact turns_o2 a1 a2 n1 c1 n2 c2 many at_ p q w l1 (by omega)
  · exact turns_o1 a1 a2 n1 c1 n2 c2 many at_ p q w (by omega)

end Go.Proofs.Ytcggfpmappfieaa
