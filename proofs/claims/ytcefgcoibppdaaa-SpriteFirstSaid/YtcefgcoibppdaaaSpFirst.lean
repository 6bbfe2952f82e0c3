/-
  The law SpriteFirst returns true.
-/
import Derived.Test.YtcefgcoibppdaaaSpFirst1
namespace Go.Proofs.Ytcefgcoibppdaaa
open Go.RowKit

set_option maxRecDepth 100000 in
set_option maxHeartbeats 12800000 in
theorem first_in (a1 a2 : Option Addr) (n1 c1 n2 c2 : Nat) (sp : Nat → Nat → Nat) (tl : Nat → Nat) (r0 r1 r2 r3 r4 r5 r6 r7 r8 r9 r10 e0 e1 e2 : Nat) (b0 : r0 < 256) (b1 : r1 < 256) (be0 : e0 < 256) (be1 : e1 < 256) (be2 : e2 < 256) (w : World) (h1 : TriRow w a1 n1 sp) (h2 : ByteRow w a2 n2 tl) (hnil : a1 = none → n1 = 0 ∧ c1 = 0) (l3 : n1 ≤ 6) (l2 : n2 ≤ 300) :
    Calls Try.prog 6 #[.agg #[.slice a1 n1 c1, .slice a2 n2 c2], regsV r0 r1 r2 r3 r4 r5 r6 r7 r8 r9 r10, .agg #[.int .u8 (e0 : Int), .int .u8 (e1 : Int), .int .u8 (e2 : Int)]] w fun e w' => e = .returned (.bool true) ∧ Below w.heap.size w w' := by
  have HM := Lib.hid (Own.start w)
  have tg1 : Hid True := trivial
  have tg2 : Hid True := trivial
  have tg3 : Hid True := trivial
  have l1 : n1 ≤ 64 := by omega
  have L1 := Lib.hid l1
  have L2 := Lib.hid l2
  have L3 := Lib.hid l3
  have HT1 := Lib.hid h1
  have HT2 := Lib.hid h2
  have H1 := Lib.hid b1
  have HSP := Lib.hid (sp_lt h1)
  have HTL := Lib.hid (tl_lt h2)
  have K3 : ((6 : Int) < (n1 : Int)) = False := by rw [eq_iff_iff, iff_false]; omega
  have H0 := Lib.hid b0
  have HNIL := Lib.hid hnil
  have HE0 := Lib.hid be0
  have HE1 := Lib.hid be1
  have HE2 := Lib.hid be2
  have H50 : Hid ((0 : Int) ≤ 50) := Lib.hid (by decide)
  have H50' : Hid ((50 : Int) ≤ 191) := Lib.hid (by decide)
  have HONE : Hid (1 ≤ 64) := Lib.hid (by decide)
  have HC64 : Hid (n1 + 1 ≤ 64) := Lib.hid (by omega)
  have HEV : Hid (∀ k, (ev3 e0 e1 e2) k < 256) := Lib.hid (ev3_lt e0 e1 e2 be0 be1 be2)
  have HSA1 : Hid (∀ i, i < 1 → ∀ k, k < 3 → (fun _ : Nat => (ev3 e0 e1 e2)) i k < 256) := Lib.hid fun i _ k _ => HEV.out k
  have HSB1 : Hid (∀ i, i < n1 + 1 → ∀ k, k < 3 → spCons (ev3 e0 e1 e2) sp i k < 256) := Lib.hid fun i hi k hk => by
    unfold spCons
    split
    · exact HEV.out k
    · exact HSP.out _ (by omega) k hk
  have HSC1 : Hid (∀ i, i < n1 + 1 → ∀ k, k < 3 → spSnoc sp n1 (ev3 e0 e1 e2) i k < 256) := Lib.hid fun i hi k hk => by
    unfold spSnoc
    split
    · exact HSP.out _ (by assumption) k hk
    · exact HEV.out k
  obtain ⟨ya, HYA⟩ : ∃ y, Hid (bMem (bTile tl n2) 16128 (fun _ => (ev3 e0 e1 e2)) 1 = y) := ⟨_, rfl⟩
  obtain ⟨yb, HYB⟩ : ∃ y, Hid (bMem (bTile tl n2) 16128 (spCons (ev3 e0 e1 e2) sp) (n1 + 1) = y) := ⟨_, rfl⟩
  obtain ⟨yc, HYC⟩ : ∃ y, Hid (bMem (bTile tl n2) 16128 (spSnoc sp n1 (ev3 e0 e1 e2)) (n1 + 1) = y) := ⟨_, rfl⟩
  obtain ⟨yd, HYD⟩ : ∃ y, Hid (bMem (bTile tl n2) 16128 sp n1 = y) := ⟨_, rfl⟩
  have HVa : Hid (∀ i, ya i < 256) := Lib.hid (by rw [← HYA.out]; exact bMem_lt (bTile_lt HTL.out) HSA1.out)
  have HVb : Hid (∀ i, yb i < 256) := Lib.hid (by rw [← HYB.out]; exact bMem_lt (bTile_lt HTL.out) HSB1.out)
  have HVc : Hid (∀ i, yc i < 256) := Lib.hid (by rw [← HYC.out]; exact bMem_lt (bTile_lt HTL.out) HSC1.out)
  have HVd : Hid (∀ i, yd i < 256) := Lib.hid (by rw [← HYD.out]; exact bMem_lt (bTile_lt HTL.out) HSP.out)
  clear l1 l2 l3 h2 b1 b0 hnil be0 be1 be2
  go_enter Try.func6, Try.ntmps6
  go_upto_region 3 with (first | (simp only [Act.put, List.setIfInBounds_toArray, List.set_cons_zero, List.set_cons_succ]) | ((with_reducible apply own_box HM); exact rfl; (conv => lhs; whnf); exact rfl; exact rfl; (first | (clear tg1; intro w' g1 HM') | (clear tg2; intro w' g2 HM') | (clear tg3; intro w' g3 HM') | (clear tg4; intro w' g4 HM') | (clear tg5; intro w' g5 HM') | (clear tg6; intro w' g6 HM') | (clear tg7; intro w' g7 HM') | (clear tg8; intro w' g8 HM') | (clear tg9; intro w' g9 HM') | intro w' g' HM'); clear HM; have HM := HM'; clear HM'; all_goals skip) | ((with_reducible apply own_alloc HM); exact rfl; (first | (with_reducible exact zeroP) | (with_reducible exact zero11) | (with_reducible exact zero3) | (with_reducible exact zeroRow)); exact rfl; (first | (clear tg1; intro w' g1 HM') | (clear tg2; intro w' g2 HM') | (clear tg3; intro w' g3 HM') | (clear tg4; intro w' g4 HM') | (clear tg5; intro w' g5 HM') | (clear tg6; intro w' g6 HM') | (clear tg7; intro w' g7 HM') | (clear tg8; intro w' g8 HM') | (clear tg9; intro w' g9 HM') | intro w' g' HM'); clear HM; have HM := HM'; clear HM'; all_goals skip) | ((with_reducible apply own_cell HM); exact rfl; exact rfl; (first | (with_reducible exact oneInt) | (with_reducible exact oneBool) | (with_reducible exact oneU8) | (with_reducible exact oneBs) | (with_reducible exact oneTs)); (first | with_reducible exact .z | with_reducible exact .s .z | with_reducible exact .s (.s .z) | with_reducible exact .s (.s (.s .z)) | with_reducible exact .s (.s (.s (.s .z))) | with_reducible exact .s (.s (.s (.s (.s .z))))); (focus repeat' (first | with_reducible exact .z | with_reducible apply Drop.s)); exact rfl; all_goals skip) | ((with_reducible apply own_load HM); exact rfl; exact rfl; (first | (with_reducible exact aggP) | (with_reducible exact agg11) | (with_reducible exact agg3)); (first | with_reducible exact .z | with_reducible exact .s .z | with_reducible exact .s (.s .z) | with_reducible exact .s (.s (.s .z)) | with_reducible exact .s (.s (.s (.s .z))) | with_reducible exact .s (.s (.s (.s (.s .z))))); (focus repeat' (first | with_reducible exact .z | with_reducible apply Drop.s)); (focus repeat' (first | with_reducible exact .z | with_reducible apply Take.s)); exact rfl; all_goals skip) | ((with_reducible apply own_store HM); exact rfl; exact rfl; (conv => lhs; whnf); exact rfl; (first | with_reducible exact .z | with_reducible exact .s .z | with_reducible exact .s (.s .z) | with_reducible exact .s (.s (.s .z)) | with_reducible exact .s (.s (.s (.s .z))) | with_reducible exact .s (.s (.s (.s (.s .z))))); (focus repeat' (first | with_reducible exact .z | with_reducible apply Over.p | with_reducible apply Over.s)); (first | with_reducible exact .z | with_reducible exact .s .z | with_reducible exact .s (.s .z) | with_reducible exact .s (.s (.s .z)) | with_reducible exact .s (.s (.s (.s .z))) | with_reducible exact .s (.s (.s (.s (.s .z))))); (first | (with_reducible exact (aggP).size) | (with_reducible exact (agg11).size) | (with_reducible exact (agg3).size) | (with_reducible exact (oneInt).size) | (with_reducible exact (oneBool).size) | (with_reducible exact (oneU8).size) | (with_reducible exact (oneBs).size) | (with_reducible exact (oneTs).size)); exact rfl; exact rfl; exact rfl; exact rfl; intro w' HM'; clear HM; have HM := HM'; clear HM'; all_goals skip) | (go_at_call 9; (with_reducible refine (alive_any _).mono ?_); rintro e w' ⟨rfl, hb⟩; have HM' := Lib.hid (HM.out.call hb); clear HM hb; have HM := HM'; clear HM'))
  (refine own_inorder HM ?_; (try simp only [Act.put, List.setIfInBounds_toArray, List.set_cons_zero, List.set_cons_succ]); repeat ((fail_if_success (with_reducible refine wpQuiet_nil ?_)); first | go_big_quiet_skip | (go_big_quiet_want; first | ((with_reducible apply quiet_load); exact rfl; (first | (with_reducible exact aggP)); (first | with_reducible exact .z | with_reducible exact .s .z | with_reducible exact .s (.s .z) | with_reducible exact .s (.s (.s .z)) | with_reducible exact .s (.s (.s (.s .z))) | with_reducible exact .s (.s (.s (.s (.s .z))))); (focus repeat' (first | with_reducible exact .z | with_reducible apply Drop.s)); (focus repeat' (first | with_reducible exact .z | with_reducible apply Take.s)); go_big_quiet_op; go_big_quiet_on) | ((with_reducible apply quiet_cell); exact rfl; (first | (with_reducible exact oneTs) | (with_reducible exact oneInt) | (with_reducible exact oneBool) | (with_reducible exact oneU8) | (with_reducible exact oneBs)); (first | with_reducible exact .z | with_reducible exact .s .z | with_reducible exact .s (.s .z) | with_reducible exact .s (.s (.s .z)) | with_reducible exact .s (.s (.s (.s .z))) | with_reducible exact .s (.s (.s (.s (.s .z))))); (focus repeat' (first | with_reducible exact .z | with_reducible apply Drop.s)); go_big_quiet_op; go_big_quiet_on) | (go_big_quiet_op; go_big_quiet_on) | ((with_reducible apply quiet_call); exact fun w => rfl; (focus (go_simp; all_goals with_reducible rfl)); (intro wq HQ; first | (with_reducible exact great_2 a1 a2 n1 c1 n2 c2 _ L1.out L2.out)); go_big_quiet_op; go_big_quiet_on) | (go_big_quiet_op; go_big_quiet_on) | (go_big_quiet_op; refine ⟨_, fun _ _ => rfl, ?_⟩; go_big_quiet_on))))
  refine wpQuiet_nil ?_
  intro w' HM'
  clear HM; have HM := HM'; clear HM'
  clear K3
  have hmE := made_t1 (e0 : Int) (e1 : Int) (e2 : Int)
  go_upto_region 7 with (first | (simp only [Act.put, List.setIfInBounds_toArray, List.set_cons_zero, List.set_cons_succ]) | ((with_reducible apply own_box HM); exact rfl; (conv => lhs; whnf); exact rfl; exact rfl; (first | (clear tg1; intro w' g1 HM') | (clear tg2; intro w' g2 HM') | (clear tg3; intro w' g3 HM') | (clear tg4; intro w' g4 HM') | (clear tg5; intro w' g5 HM') | (clear tg6; intro w' g6 HM') | (clear tg7; intro w' g7 HM') | (clear tg8; intro w' g8 HM') | (clear tg9; intro w' g9 HM') | intro w' g' HM'); clear HM; have HM := HM'; clear HM'; all_goals skip) | ((with_reducible apply own_alloc HM); exact rfl; (first | (with_reducible exact zeroP) | (with_reducible exact zero11) | (with_reducible exact zero3) | (with_reducible exact zeroRow)); exact rfl; (first | (clear tg1; intro w' g1 HM') | (clear tg2; intro w' g2 HM') | (clear tg3; intro w' g3 HM') | (clear tg4; intro w' g4 HM') | (clear tg5; intro w' g5 HM') | (clear tg6; intro w' g6 HM') | (clear tg7; intro w' g7 HM') | (clear tg8; intro w' g8 HM') | (clear tg9; intro w' g9 HM') | intro w' g' HM'); clear HM; have HM := HM'; clear HM'; all_goals skip) | ((with_reducible apply own_cell HM); exact rfl; exact rfl; (first | (with_reducible exact oneInt) | (with_reducible exact oneBool) | (with_reducible exact oneU8) | (with_reducible exact oneBs) | (with_reducible exact oneTs)); (first | with_reducible exact .z | with_reducible exact .s .z | with_reducible exact .s (.s .z) | with_reducible exact .s (.s (.s .z)) | with_reducible exact .s (.s (.s (.s .z))) | with_reducible exact .s (.s (.s (.s (.s .z))))); (focus repeat' (first | with_reducible exact .z | with_reducible apply Drop.s)); exact rfl; all_goals skip) | ((with_reducible apply own_load HM); exact rfl; exact rfl; (first | (with_reducible exact aggP) | (with_reducible exact agg11) | (with_reducible exact agg3)); (first | with_reducible exact .z | with_reducible exact .s .z | with_reducible exact .s (.s .z) | with_reducible exact .s (.s (.s .z)) | with_reducible exact .s (.s (.s (.s .z))) | with_reducible exact .s (.s (.s (.s (.s .z))))); (focus repeat' (first | with_reducible exact .z | with_reducible apply Drop.s)); (focus repeat' (first | with_reducible exact .z | with_reducible apply Take.s)); exact rfl; all_goals skip) | ((with_reducible apply own_store HM); exact rfl; exact rfl; (conv => lhs; whnf); exact rfl; (first | with_reducible exact .z | with_reducible exact .s .z | with_reducible exact .s (.s .z) | with_reducible exact .s (.s (.s .z)) | with_reducible exact .s (.s (.s (.s .z))) | with_reducible exact .s (.s (.s (.s (.s .z))))); (focus repeat' (first | with_reducible exact .z | with_reducible apply Over.p | with_reducible apply Over.s)); (first | with_reducible exact .z | with_reducible exact .s .z | with_reducible exact .s (.s .z) | with_reducible exact .s (.s (.s .z)) | with_reducible exact .s (.s (.s (.s .z))) | with_reducible exact .s (.s (.s (.s (.s .z))))); (first | (with_reducible exact (aggP).size) | (with_reducible exact (agg11).size) | (with_reducible exact (agg3).size) | (with_reducible exact (oneInt).size) | (with_reducible exact (oneBool).size) | (with_reducible exact (oneU8).size) | (with_reducible exact (oneBs).size) | (with_reducible exact (oneTs).size)); exact rfl; exact rfl; exact rfl; exact rfl; intro w' HM'; clear HM; have HM := HM'; clear HM'; all_goals skip))
  go_upto_region 8 with (first
    | (simp only [Act.put, List.setIfInBounds_toArray, List.set_cons_zero, List.set_cons_succ])
    | ((with_reducible apply own_made (cs := [.int .u8 (e0 : Int), .int .u8 (e1 : Int), .int .u8 (e2 : Int)]) (e := 36) (n := 1) HM); exact rfl; exact hmE; (focus (first | exact rfl | (go_simp; done))); exact rfl; intro w' ge HM'; have hbp := blt_pic2 (some ⟨ge, 0, none⟩) a2 1 1 n2 c2; clear HM; have HM := HM'; clear HM')
    | ((with_reducible apply built_by hbp); exact rfl; (focus (go_simp; done)); exact rfl; all_goals skip)
    | (go_at_call 12; (with_reducible refine (build_f (some ⟨ge, 0, none⟩) a2 1 1 n2 c2 (fun _ => (ev3 e0 e1 e2)) tl r0 r1 r2 r3 r4 r7 r8 r9 r10 _ (tri_one HM.out .z HE0.out HE1.out HE2.out) (HT2.out.under (Own.fin HM)) HONE.out L2.out ya HYA).mono ?_); rintro e w' ⟨ga, rfl, hg, hW, hb⟩; have HM' := Lib.hid (HM.out.plus hb hg hW).swap2.forget; clear HM hb hg hW; have HM := HM'; clear HM')
    | ((with_reducible apply own_box HM); exact rfl; (conv => lhs; whnf); exact rfl; exact rfl; (first | (clear tg1; intro w' g1 HM') | (clear tg2; intro w' g2 HM') | (clear tg3; intro w' g3 HM') | (clear tg4; intro w' g4 HM') | (clear tg5; intro w' g5 HM') | (clear tg6; intro w' g6 HM') | (clear tg7; intro w' g7 HM') | (clear tg8; intro w' g8 HM') | (clear tg9; intro w' g9 HM') | intro w' g' HM'); clear HM; have HM := HM'; clear HM'; all_goals skip) | ((with_reducible apply own_alloc HM); exact rfl; (first | (with_reducible exact zeroP) | (with_reducible exact zero11) | (with_reducible exact zero3) | (with_reducible exact zeroRow)); exact rfl; (first | (clear tg1; intro w' g1 HM') | (clear tg2; intro w' g2 HM') | (clear tg3; intro w' g3 HM') | (clear tg4; intro w' g4 HM') | (clear tg5; intro w' g5 HM') | (clear tg6; intro w' g6 HM') | (clear tg7; intro w' g7 HM') | (clear tg8; intro w' g8 HM') | (clear tg9; intro w' g9 HM') | intro w' g' HM'); clear HM; have HM := HM'; clear HM'; all_goals skip) | ((with_reducible apply own_cell HM); exact rfl; exact rfl; (first | (with_reducible exact oneInt) | (with_reducible exact oneBool) | (with_reducible exact oneU8) | (with_reducible exact oneBs) | (with_reducible exact oneTs)); (first | with_reducible exact .z | with_reducible exact .s .z | with_reducible exact .s (.s .z) | with_reducible exact .s (.s (.s .z)) | with_reducible exact .s (.s (.s (.s .z))) | with_reducible exact .s (.s (.s (.s (.s .z))))); (focus repeat' (first | with_reducible exact .z | with_reducible apply Drop.s)); exact rfl; all_goals skip) | ((with_reducible apply own_load HM); exact rfl; exact rfl; (first | (with_reducible exact aggP) | (with_reducible exact agg11) | (with_reducible exact agg3)); (first | with_reducible exact .z | with_reducible exact .s .z | with_reducible exact .s (.s .z) | with_reducible exact .s (.s (.s .z)) | with_reducible exact .s (.s (.s (.s .z))) | with_reducible exact .s (.s (.s (.s (.s .z))))); (focus repeat' (first | with_reducible exact .z | with_reducible apply Drop.s)); (focus repeat' (first | with_reducible exact .z | with_reducible apply Take.s)); exact rfl; all_goals skip) | ((with_reducible apply own_store HM); exact rfl; exact rfl; (conv => lhs; whnf); exact rfl; (first | with_reducible exact .z | with_reducible exact .s .z | with_reducible exact .s (.s .z) | with_reducible exact .s (.s (.s .z)) | with_reducible exact .s (.s (.s (.s .z))) | with_reducible exact .s (.s (.s (.s (.s .z))))); (focus repeat' (first | with_reducible exact .z | with_reducible apply Over.p | with_reducible apply Over.s)); (first | with_reducible exact .z | with_reducible exact .s .z | with_reducible exact .s (.s .z) | with_reducible exact .s (.s (.s .z)) | with_reducible exact .s (.s (.s (.s .z))) | with_reducible exact .s (.s (.s (.s (.s .z))))); (first | (with_reducible exact (aggP).size) | (with_reducible exact (agg11).size) | (with_reducible exact (agg3).size) | (with_reducible exact (oneInt).size) | (with_reducible exact (oneBool).size) | (with_reducible exact (oneU8).size) | (with_reducible exact (oneBs).size) | (with_reducible exact (oneTs).size)); exact rfl; exact rfl; exact rfl; exact rfl; intro w' HM'; clear HM; have HM := HM'; clear HM'; all_goals skip))
  clear hbp
  obtain ⟨i3, hi3, hy0, hy1, hy2⟩ := three_parts
  refine wp_region_held (S := fun w' => Own w w' ((ga, 5, b8 16384 ya) :: (g3, 36, [.int .u8 (e0 : Int), .int .u8 (e1 : Int), .int .u8 (e2 : Int)]) :: (g2, 26, [.int .u8 (r0 : Int), .int .u8 (r1 : Int), .int .u8 (r2 : Int), .int .u8 (r3 : Int), .int .u8 (r4 : Int), .int .u8 126, .int .u8 0, .int .u8 (r7 : Int), .int .u8 (r8 : Int), .int .u8 (r9 : Int), .int .u8 (r10 : Int)]) :: (g1, 31, [.slice a1 n1 c1, .slice a2 n2 c2]) :: [])) (by kernel_rfl) ?_
  replace HM := Lib.hid HM.out.drew
  change wpAnyH _ _ _ _ _ _ _ _ (World.drew _)
  have HQ := HM.out
  refine h_take (i := 0) (d := 35) (v := .agg #[.int .u8 (e0 : Int), .int .u8 (e1 : Int), .int .u8 (e2 : Int)]) rfl rfl (by kernel_rfl) (by kernel_rfl) (by kernel_rfl) (fun _ _ _ h => h) (y_row (g := g3) rfl rfl agg3 (.s .z) rfl rfl) HQ ?_
  (try simp only [Act.put, List.setIfInBounds_toArray, List.set_cons_zero, List.set_cons_succ])
  refine h_take (i := 2) (d := 37) (v := .pointer (some ⟨g1, 0, none⟩)) rfl rfl (by kernel_rfl) (by kernel_rfl) (by kernel_rfl) (fun _ _ _ h => h) (y_pure rfl (fun w => by go_simp)) HQ ?_
  (try simp only [Act.put, List.setIfInBounds_toArray, List.set_cons_zero, List.set_cons_succ])
  refine h_take (i := 3) (d := 38) (v := .slice a1 n1 c1) rfl rfl (by kernel_rfl) (by kernel_rfl) (by kernel_rfl) (fun _ _ _ h => h) (y_cell (g := g1) (off := 0) rfl rfl oneTs (.s (.s (.s .z))) .z rfl) HQ ?_
  (try simp only [Act.put, List.setIfInBounds_toArray, List.set_cons_zero, List.set_cons_succ])
  refine h_take (i := 5) (d := 40) (v := .pointer (some ⟨g1, 1, none⟩)) rfl rfl (by kernel_rfl) (by kernel_rfl) (by kernel_rfl) (fun _ _ _ h => h) (y_pure rfl (fun w => by go_simp)) HQ ?_
  (try simp only [Act.put, List.setIfInBounds_toArray, List.set_cons_zero, List.set_cons_succ])
  refine h_take (i := 6) (d := 41) (v := .slice a2 n2 c2) rfl rfl (by kernel_rfl) (by kernel_rfl) (by kernel_rfl) (fun _ _ _ h => h) (y_cell (g := g1) (off := 1) rfl rfl oneBs (.s (.s (.s .z))) (.s .z) rfl) HQ ?_
  (try simp only [Act.put, List.setIfInBounds_toArray, List.set_cons_zero, List.set_cons_succ])
  refine h_take (i := 8) (d := 43) (v := .agg #[.int .u8 (r0 : Int), .int .u8 (r1 : Int), .int .u8 (r2 : Int), .int .u8 (r3 : Int), .int .u8 (r4 : Int), .int .u8 126, .int .u8 0, .int .u8 (r7 : Int), .int .u8 (r8 : Int), .int .u8 (r9 : Int), .int .u8 (r10 : Int)]) rfl rfl (by kernel_rfl) (by kernel_rfl) (by kernel_rfl) (fun _ _ _ h => h) (y_row (g := g2) rfl rfl agg11 (.s (.s .z)) rfl rfl) HQ ?_
  (try simp only [Act.put, List.setIfInBounds_toArray, List.set_cons_zero, List.set_cons_succ])
  clear HQ
  have HM0 := HM
  clear HM
  refine wpAnyH_all (rs := [1]) (by kernel_rfl) (by simp) ?_
  intro i hi
  obtain rfl := List.mem_singleton.1 hi
  refine wpOp_of rfl rfl ?_
  refine w_made (e := 36) HM0 rfl hmE (by go_simp) ?_
  intro w0 ge HM1
  refine ⟨HM1.out.forget, ?_⟩
  clear HM0
  change wpAnyH _ _ _ _ _ _ _ (Act.put _ (some 36) _) _
  (try simp only [Act.put, List.setIfInBounds_toArray, List.set_cons_zero, List.set_cons_succ])
  refine wpAnyH_all (rs := [4]) (by kernel_rfl) (by simp) ?_
  intro i hi
  obtain rfl := List.mem_singleton.1 hi
  refine wpOp_of rfl rfl ?_
  refine w_append (L := ((ga, 5, b8 16384 ya) :: (g3, 36, [.int .u8 (e0 : Int), .int .u8 (e1 : Int), .int .u8 (e2 : Int)]) :: (g2, 26, [.int .u8 (r0 : Int), .int .u8 (r1 : Int), .int .u8 (r2 : Int), .int .u8 (r3 : Int), .int .u8 (r4 : Int), .int .u8 126, .int .u8 0, .int .u8 (r7 : Int), .int .u8 (r8 : Int), .int .u8 (r9 : Int), .int .u8 (r10 : Int)]) :: (g1, 31, [.slice a1 n1 c1, .slice a2 n2 c2]) :: [])) (R := [(ge, 36, [.int .u8 (e0 : Int), .int .u8 (e1 : Int), .int .u8 (e2 : Int)])]) (m := n1) (news := tris sp n1) HM1 (Lib.hid (RowN.fresh 3 36 ge 1 [.int .u8 (e0 : Int), .int .u8 (e1 : Int), .int .u8 (e2 : Int)] rfl (by decide))) (List.perm_append_singleton _ _).symm rfl rfl rfl (src_tri (HT1.out.under (Own.fin HM1)) HNIL.out) Try.underlying29 hi3 hy0 hy1 hy2 rfl (by decide) (by decide) (tris_length sp n1) (tris_all sp n1) (by have := L3.out; omega) ?_
  intro v' w1 R' HR' HM2
  obtain ⟨p', cp', rfl⟩ := HR'.out.slice
  have HR := HR'.out
  rw [show [.int .u8 (e0 : Int), .int .u8 (e1 : Int), .int .u8 (e2 : Int)] ++ tris sp n1 = tris (spCons (ev3 e0 e1 e2) sp) (n1 + 1) from tris_cons (ev3 e0 e1 e2) sp n1, Nat.add_comm 1 n1] at HR
  refine ⟨HM2.out.front, ?_⟩
  clear HM1 HR'
  change wpAnyH _ _ _ _ _ _ _ (Act.put _ (some 39) _) _
  (try simp only [Act.put, List.setIfInBounds_toArray, List.set_cons_zero, List.set_cons_succ])
  have HQ := HM2.out.front
  refine h_take (i := 7) (d := 42) (v := .agg #[.slice p' (1 + n1) cp', .slice a2 n2 c2]) rfl rfl (by kernel_rfl) (by kernel_rfl) (by kernel_rfl) (fun _ _ _ h => h) (y_built (blt_pic2 p' a2 (1 + n1) cp' n2 c2) rfl (by go_simp) rfl) HQ ?_
  (try simp only [Act.put, List.setIfInBounds_toArray, List.set_cons_zero, List.set_cons_succ])
  clear HQ
  refine wpAnyH_all (rs := [9]) (by kernel_rfl) (by simp) ?_
  intro i hi
  obtain rfl := List.mem_singleton.1 hi
  refine wpOp_of rfl rfl ?_
  rw [Nat.add_comm 1 n1]
  refine w_call (f := 12) (args := #[.agg #[.slice p' (n1 + 1) cp', .slice a2 n2 c2], .agg #[.int .u8 (r0 : Int), .int .u8 (r1 : Int), .int .u8 (r2 : Int), .int .u8 (r3 : Int), .int .u8 (r4 : Int), .int .u8 126, .int .u8 0, .int .u8 (r7 : Int), .int .u8 (r8 : Int), .int .u8 (r9 : Int), .int .u8 (r10 : Int)]]) (fun w => rfl) (by go_simp) ?_
  refine (build_f p' a2 (n1 + 1) cp' n2 c2 (spCons (ev3 e0 e1 e2) sp) tl r0 r1 r2 r3 r4 r7 r8 r9 r10 _ (tri_now HR (Own.rows HM2.out) HSB1.out) (HT2.out.under (Own.fin HM2)) HC64.out L2.out yb HYB).mono ?_
  rintro e w2 ⟨gb, rfl, hg, hW, hb⟩
  have HM3 := Lib.hid (Own.front (l := ((gb, 5, b8 16384 yb) :: (ga, 5, b8 16384 ya) :: (g3, 36, [.int .u8 (e0 : Int), .int .u8 (e1 : Int), .int .u8 (e2 : Int)]) :: (g2, 26, [.int .u8 (r0 : Int), .int .u8 (r1 : Int), .int .u8 (r2 : Int), .int .u8 (r3 : Int), .int .u8 (r4 : Int), .int .u8 126, .int .u8 0, .int .u8 (r7 : Int), .int .u8 (r8 : Int), .int .u8 (r9 : Int), .int .u8 (r10 : Int)]) :: (g1, 31, [.slice a1 n1 c1, .slice a2 n2 c2]) :: [])) (HM2.out.plus hb hg hW))
  refine ⟨_, rfl, HM3.out.forget, ?_⟩
  clear hg hW hb HM2
  change wpAnyH _ _ _ _ _ _ _ (Act.put _ (some 44) _) _
  (try simp only [Act.put, List.setIfInBounds_toArray, List.set_cons_zero, List.set_cons_succ])
  have HQ := HM3.out.forget
  refine h_take (i := 10) (d := 8) (v := .slice (some ⟨gb, 0, none⟩) 16384 16384) rfl rfl (by kernel_rfl) (by kernel_rfl) (by kernel_rfl) (fun _ _ _ h => h) (y_pure rfl (fun w => by go_simp)) HQ ?_
  (try simp only [Act.put, List.setIfInBounds_toArray, List.set_cons_zero, List.set_cons_succ])
  clear HQ HR
  have HM := HM3
  clear HM3
  refine wpAnyH_done (by kernel_rfl) ?_ _
  go_upto_region 9 with fail
  go_cut [9] from 45 to 56 (fun s9 wx => ∃ gc, s9 = .slice (some ⟨gc, 0, none⟩) 16384 16384 ∧ Hid (Own w wx ((gc, 5, b8 16384 yc) :: ((gb, 5, b8 16384 yb) :: (ga, 5, b8 16384 ya) :: (g3, 36, [.int .u8 (e0 : Int), .int .u8 (e1 : Int), .int .u8 (e2 : Int)]) :: (g2, 26, [.int .u8 (r0 : Int), .int .u8 (r1 : Int), .int .u8 (r2 : Int), .int .u8 (r3 : Int), .int .u8 (r4 : Int), .int .u8 126, .int .u8 0, .int .u8 (r7 : Int), .int .u8 (r8 : Int), .int .u8 (r9 : Int), .int .u8 (r10 : Int)]) :: (g1, 31, [.slice a1 n1 c1, .slice a2 n2 c2]) :: []))))
  case' first =>
    refine wp_region_held (S := fun w' => Own w w' ((gb, 5, b8 16384 yb) :: (ga, 5, b8 16384 ya) :: (g3, 36, [.int .u8 (e0 : Int), .int .u8 (e1 : Int), .int .u8 (e2 : Int)]) :: (g2, 26, [.int .u8 (r0 : Int), .int .u8 (r1 : Int), .int .u8 (r2 : Int), .int .u8 (r3 : Int), .int .u8 (r4 : Int), .int .u8 126, .int .u8 0, .int .u8 (r7 : Int), .int .u8 (r8 : Int), .int .u8 (r9 : Int), .int .u8 (r10 : Int)]) :: (g1, 31, [.slice a1 n1 c1, .slice a2 n2 c2]) :: [])) (by kernel_rfl) ?_
    replace HM := Lib.hid HM.out.drew
    change wpAnyH _ _ _ _ _ _ _ _ (World.drew _)
    have HQ := HM.out
    refine h_take (i := 1) (d := 46) (v := .pointer (some ⟨g1, 0, none⟩)) rfl rfl (by kernel_rfl) (by kernel_rfl) (by kernel_rfl) (fun _ _ _ h => h) (y_pure rfl (fun w => by go_simp)) HQ ?_
    (try simp only [Act.put, List.setIfInBounds_toArray, List.set_cons_zero, List.set_cons_succ])
    refine h_take (i := 2) (d := 47) (v := .slice a1 n1 c1) rfl rfl (by kernel_rfl) (by kernel_rfl) (by kernel_rfl) (fun _ _ _ h => h) (y_cell (g := g1) (off := 0) rfl rfl oneTs (.s (.s (.s (.s .z)))) .z rfl) HQ ?_
    (try simp only [Act.put, List.setIfInBounds_toArray, List.set_cons_zero, List.set_cons_succ])
    refine h_take (i := 4) (d := 49) (v := .agg #[.int .u8 (e0 : Int), .int .u8 (e1 : Int), .int .u8 (e2 : Int)]) rfl rfl (by kernel_rfl) (by kernel_rfl) (by kernel_rfl) (fun _ _ _ h => h) (y_row (g := g3) rfl rfl agg3 (.s (.s .z)) rfl rfl) HQ ?_
    (try simp only [Act.put, List.setIfInBounds_toArray, List.set_cons_zero, List.set_cons_succ])
    refine h_take (i := 7) (d := 52) (v := .pointer (some ⟨g1, 1, none⟩)) rfl rfl (by kernel_rfl) (by kernel_rfl) (by kernel_rfl) (fun _ _ _ h => h) (y_pure rfl (fun w => by go_simp)) HQ ?_
    (try simp only [Act.put, List.setIfInBounds_toArray, List.set_cons_zero, List.set_cons_succ])
    refine h_take (i := 8) (d := 53) (v := .slice a2 n2 c2) rfl rfl (by kernel_rfl) (by kernel_rfl) (by kernel_rfl) (fun _ _ _ h => h) (y_cell (g := g1) (off := 1) rfl rfl oneBs (.s (.s (.s (.s .z)))) (.s .z) rfl) HQ ?_
    (try simp only [Act.put, List.setIfInBounds_toArray, List.set_cons_zero, List.set_cons_succ])
    refine h_take (i := 10) (d := 55) (v := .agg #[.int .u8 (r0 : Int), .int .u8 (r1 : Int), .int .u8 (r2 : Int), .int .u8 (r3 : Int), .int .u8 (r4 : Int), .int .u8 126, .int .u8 0, .int .u8 (r7 : Int), .int .u8 (r8 : Int), .int .u8 (r9 : Int), .int .u8 (r10 : Int)]) rfl rfl (by kernel_rfl) (by kernel_rfl) (by kernel_rfl) (fun _ _ _ h => h) (y_row (g := g2) rfl rfl agg11 (.s (.s (.s .z))) rfl rfl) HQ ?_
    (try simp only [Act.put, List.setIfInBounds_toArray, List.set_cons_zero, List.set_cons_succ])
    clear HQ
    have HM0 := HM
    clear HM
    refine wpAnyH_all (rs := [0, 5]) (by kernel_rfl) (by simp) ?_
    intro i hi
    simp only [List.mem_cons, List.not_mem_nil, or_false] at hi
    rcases hi with rfl | rfl
    · refine wpOp_of rfl rfl ?_
      refine w_made (e := 36) HM0 rfl made_t0 (by go_simp) ?_
      intro w0 gA HM1
      refine ⟨HM1.out.forget, ?_⟩
      clear HM0
      change wpAnyH _ _ _ _ _ _ _ (Act.put _ (some 45) _) _
      (try simp only [Act.put, List.setIfInBounds_toArray, List.set_cons_zero, List.set_cons_succ])
      refine wpAnyH_all (rs := [3, 5]) (by kernel_rfl) (by simp) ?_
      intro i hi
      simp only [List.mem_cons, List.not_mem_nil, or_false] at hi
      rcases hi with rfl | rfl
      · refine wpOp_of rfl rfl ?_
        refine w_append (L := ((gb, 5, b8 16384 yb) :: (ga, 5, b8 16384 ya) :: (g3, 36, [.int .u8 (e0 : Int), .int .u8 (e1 : Int), .int .u8 (e2 : Int)]) :: (g2, 26, [.int .u8 (r0 : Int), .int .u8 (r1 : Int), .int .u8 (r2 : Int), .int .u8 (r3 : Int), .int .u8 (r4 : Int), .int .u8 126, .int .u8 0, .int .u8 (r7 : Int), .int .u8 (r8 : Int), .int .u8 (r9 : Int), .int .u8 (r10 : Int)]) :: (g1, 31, [.slice a1 n1 c1, .slice a2 n2 c2]) :: [])) (R := [(gA, 36, [])]) (m := n1) (news := tris sp n1) HM1 (Lib.hid (RowN.fresh 3 36 gA 0 [] rfl (by decide))) (List.perm_append_singleton _ _).symm rfl rfl rfl (src_tri (HT1.out.under (Own.fin HM1)) HNIL.out) Try.underlying29 hi3 hy0 hy1 hy2 rfl (by decide) (by decide) (tris_length sp n1) (tris_all sp n1) (by have := L3.out; omega) ?_
        intro v' w1 RB HRB' HM2
        have HRB : Hid (RowN 3 36 RB v' n1 (tris sp n1)) := Lib.hid (by have e := HRB'.out; rw [Nat.zero_add, List.nil_append] at e; exact e)
        refine ⟨Own.front (R := RB) HM2.out, ?_⟩
        clear HM1 HRB'
        change wpAnyH _ _ _ _ _ _ _ (Act.put _ (some 48) _) _
        (try simp only [Act.put, List.setIfInBounds_toArray, List.set_cons_zero, List.set_cons_succ])
        refine wpAnyH_all (rs := [5]) (by kernel_rfl) (by simp) ?_
        intro i hi
        obtain rfl := List.mem_singleton.1 hi
        refine wpOp_of rfl rfl ?_
        refine w_made (e := 36) HM2 rfl hmE (by go_simp) ?_
        intro w2 gC HM3
        refine ⟨Own.front (R := RB) HM3.out.forget, ?_⟩
        clear HM2
        change wpAnyH _ _ _ _ _ _ _ (Act.put _ (some 50) _) _
        (try simp only [Act.put, List.setIfInBounds_toArray, List.set_cons_zero, List.set_cons_succ])
        refine wpAnyH_all (rs := [6]) (by kernel_rfl) (by simp) ?_
        intro i hi
        obtain rfl := List.mem_singleton.1 hi
        refine wpOp_of rfl rfl ?_
        refine w_append (L := (gC, 36, [.int .u8 (e0 : Int), .int .u8 (e1 : Int), .int .u8 (e2 : Int)]) :: ((gb, 5, b8 16384 yb) :: (ga, 5, b8 16384 ya) :: (g3, 36, [.int .u8 (e0 : Int), .int .u8 (e1 : Int), .int .u8 (e2 : Int)]) :: (g2, 26, [.int .u8 (r0 : Int), .int .u8 (r1 : Int), .int .u8 (r2 : Int), .int .u8 (r3 : Int), .int .u8 (r4 : Int), .int .u8 126, .int .u8 0, .int .u8 (r7 : Int), .int .u8 (r8 : Int), .int .u8 (r9 : Int), .int .u8 (r10 : Int)]) :: (g1, 31, [.slice a1 n1 c1, .slice a2 n2 c2]) :: [])) (R := RB) (m := 1) (news := [.int .u8 (e0 : Int), .int .u8 (e1 : Int), .int .u8 (e2 : Int)]) HM3 HRB (List.Perm.refl _) rfl rfl rfl (src_own (HM3.out.whole (gC, 36, [.int .u8 (e0 : Int), .int .u8 (e1 : Int), .int .u8 (e2 : Int)]) (by simp)).2) Try.underlying29 hi3 hy0 hy1 hy2 rfl (by decide) (by decide) rfl rfl (by have := L3.out; omega) ?_
        intro v' w3 RD HR' HM4
        obtain ⟨p', cp', rfl⟩ := HR'.out.slice
        have HR := HR'.out
        rw [show tris sp n1 ++ [.int .u8 (e0 : Int), .int .u8 (e1 : Int), .int .u8 (e2 : Int)] = tris (spSnoc sp n1 (ev3 e0 e1 e2)) (n1 + 1) from tris_snoc sp n1 (ev3 e0 e1 e2)] at HR
        refine ⟨HM4.out.front.forget, ?_⟩
        clear HM3 HR' HRB
        change wpAnyH _ _ _ _ _ _ _ (Act.put _ (some 51) _) _
        (try simp only [Act.put, List.setIfInBounds_toArray, List.set_cons_zero, List.set_cons_succ])
        have HQ := HM4.out.front.forget
        refine h_take (i := 9) (d := 54) (v := .agg #[.slice p' (n1 + 1) cp', .slice a2 n2 c2]) rfl rfl (by kernel_rfl) (by kernel_rfl) (by kernel_rfl) (fun _ _ _ h => h) (y_built (blt_pic2 p' a2 (n1 + 1) cp' n2 c2) rfl (by go_simp) rfl) HQ ?_
        (try simp only [Act.put, List.setIfInBounds_toArray, List.set_cons_zero, List.set_cons_succ])
        clear HQ
        refine wpAnyH_all (rs := [11]) (by kernel_rfl) (by simp) ?_
        intro i hi
        obtain rfl := List.mem_singleton.1 hi
        refine wpOp_of rfl rfl ?_
        refine w_call (f := 12) (args := #[.agg #[.slice p' (n1 + 1) cp', .slice a2 n2 c2], .agg #[.int .u8 (r0 : Int), .int .u8 (r1 : Int), .int .u8 (r2 : Int), .int .u8 (r3 : Int), .int .u8 (r4 : Int), .int .u8 126, .int .u8 0, .int .u8 (r7 : Int), .int .u8 (r8 : Int), .int .u8 (r9 : Int), .int .u8 (r10 : Int)]]) (fun w => rfl) (by go_simp) ?_
        refine (build_f p' a2 (n1 + 1) cp' n2 c2 (spSnoc sp n1 (ev3 e0 e1 e2)) tl r0 r1 r2 r3 r4 r7 r8 r9 r10 _ (tri_now HR (Own.rows HM4.out) HSC1.out) (HT2.out.under (Own.fin HM4)) HC64.out L2.out yc HYC).mono ?_
        rintro e w4 ⟨gc, rfl, hg, hW, hb⟩
        have HMe := Lib.hid (Own.front (l := (gc, 5, b8 16384 yc) :: (gC, 36, [.int .u8 (e0 : Int), .int .u8 (e1 : Int), .int .u8 (e2 : Int)]) :: ((gb, 5, b8 16384 yb) :: (ga, 5, b8 16384 ya) :: (g3, 36, [.int .u8 (e0 : Int), .int .u8 (e1 : Int), .int .u8 (e2 : Int)]) :: (g2, 26, [.int .u8 (r0 : Int), .int .u8 (r1 : Int), .int .u8 (r2 : Int), .int .u8 (r3 : Int), .int .u8 (r4 : Int), .int .u8 126, .int .u8 0, .int .u8 (r7 : Int), .int .u8 (r8 : Int), .int .u8 (r9 : Int), .int .u8 (r10 : Int)]) :: (g1, 31, [.slice a1 n1 c1, .slice a2 n2 c2]) :: [])) (HM4.out.plus hb hg hW)).swap2.forget
        refine ⟨_, rfl, HMe.out.forget, ?_⟩
        clear hg hW hb HM4
        change wpAnyH _ _ _ _ _ _ _ (Act.put _ (some 56) _) _
        (try simp only [Act.put, List.setIfInBounds_toArray, List.set_cons_zero, List.set_cons_succ])
        have HQ := HMe.out.forget
        refine h_take (i := 12) (d := 9) (v := .slice (some ⟨gc, 0, none⟩) 16384 16384) rfl rfl (by kernel_rfl) (by kernel_rfl) (by kernel_rfl) (fun _ _ _ h => h) (y_pure rfl (fun w => by go_simp)) HQ ?_
        (try simp only [Act.put, List.setIfInBounds_toArray, List.set_cons_zero, List.set_cons_succ])
        clear HQ HR
        refine wpAnyH_done (by kernel_rfl) ?_ _
        go_wp2_with fail
        go_meet
        exact ⟨gc, rfl, HMe⟩
      · refine wpOp_of rfl rfl ?_
        refine w_made (e := 36) HM1 rfl hmE (by go_simp) ?_
        intro w1 gC HM2
        refine ⟨HM2.out.forget.forget, ?_⟩
        clear HM1
        change wpAnyH _ _ _ _ _ _ _ (Act.put _ (some 50) _) _
        (try simp only [Act.put, List.setIfInBounds_toArray, List.set_cons_zero, List.set_cons_succ])
        refine wpAnyH_all (rs := [3]) (by kernel_rfl) (by simp) ?_
        intro i hi
        obtain rfl := List.mem_singleton.1 hi
        refine wpOp_of rfl rfl ?_
        refine w_append (L := (gC, 36, [.int .u8 (e0 : Int), .int .u8 (e1 : Int), .int .u8 (e2 : Int)]) :: ((gb, 5, b8 16384 yb) :: (ga, 5, b8 16384 ya) :: (g3, 36, [.int .u8 (e0 : Int), .int .u8 (e1 : Int), .int .u8 (e2 : Int)]) :: (g2, 26, [.int .u8 (r0 : Int), .int .u8 (r1 : Int), .int .u8 (r2 : Int), .int .u8 (r3 : Int), .int .u8 (r4 : Int), .int .u8 126, .int .u8 0, .int .u8 (r7 : Int), .int .u8 (r8 : Int), .int .u8 (r9 : Int), .int .u8 (r10 : Int)]) :: (g1, 31, [.slice a1 n1 c1, .slice a2 n2 c2]) :: [])) (R := [(gA, 36, [])]) (m := n1) (news := tris sp n1) HM2 (Lib.hid (RowN.fresh 3 36 gA 0 [] rfl (by decide))) ((List.Perm.swap _ _ _).trans (List.perm_append_singleton _ _).symm) rfl rfl rfl (src_tri (HT1.out.under (Own.fin HM2)) HNIL.out) Try.underlying29 hi3 hy0 hy1 hy2 rfl (by decide) (by decide) (tris_length sp n1) (tris_all sp n1) (by have := L3.out; omega) ?_
        intro v' w2 RB HRB' HM3
        have HRB : Hid (RowN 3 36 RB v' n1 (tris sp n1)) := Lib.hid (by have e := HRB'.out; rw [Nat.zero_add, List.nil_append] at e; exact e)
        refine ⟨Own.front (R := RB) HM3.out.forget, ?_⟩
        clear HM2 HRB'
        change wpAnyH _ _ _ _ _ _ _ (Act.put _ (some 48) _) _
        (try simp only [Act.put, List.setIfInBounds_toArray, List.set_cons_zero, List.set_cons_succ])
        refine wpAnyH_all (rs := [6]) (by kernel_rfl) (by simp) ?_
        intro i hi
        obtain rfl := List.mem_singleton.1 hi
        refine wpOp_of rfl rfl ?_
        refine w_append (L := (gC, 36, [.int .u8 (e0 : Int), .int .u8 (e1 : Int), .int .u8 (e2 : Int)]) :: ((gb, 5, b8 16384 yb) :: (ga, 5, b8 16384 ya) :: (g3, 36, [.int .u8 (e0 : Int), .int .u8 (e1 : Int), .int .u8 (e2 : Int)]) :: (g2, 26, [.int .u8 (r0 : Int), .int .u8 (r1 : Int), .int .u8 (r2 : Int), .int .u8 (r3 : Int), .int .u8 (r4 : Int), .int .u8 126, .int .u8 0, .int .u8 (r7 : Int), .int .u8 (r8 : Int), .int .u8 (r9 : Int), .int .u8 (r10 : Int)]) :: (g1, 31, [.slice a1 n1 c1, .slice a2 n2 c2]) :: [])) (R := RB) (m := 1) (news := [.int .u8 (e0 : Int), .int .u8 (e1 : Int), .int .u8 (e2 : Int)]) HM3 HRB (List.Perm.refl _) rfl rfl rfl (src_own (HM3.out.whole (gC, 36, [.int .u8 (e0 : Int), .int .u8 (e1 : Int), .int .u8 (e2 : Int)]) (by simp)).2) Try.underlying29 hi3 hy0 hy1 hy2 rfl (by decide) (by decide) rfl rfl (by have := L3.out; omega) ?_
        intro v' w3 RD HR' HM4
        obtain ⟨p', cp', rfl⟩ := HR'.out.slice
        have HR := HR'.out
        rw [show tris sp n1 ++ [.int .u8 (e0 : Int), .int .u8 (e1 : Int), .int .u8 (e2 : Int)] = tris (spSnoc sp n1 (ev3 e0 e1 e2)) (n1 + 1) from tris_snoc sp n1 (ev3 e0 e1 e2)] at HR
        refine ⟨HM4.out.front.forget, ?_⟩
        clear HM3 HR' HRB
        change wpAnyH _ _ _ _ _ _ _ (Act.put _ (some 51) _) _
        (try simp only [Act.put, List.setIfInBounds_toArray, List.set_cons_zero, List.set_cons_succ])
        have HQ := HM4.out.front.forget
        refine h_take (i := 9) (d := 54) (v := .agg #[.slice p' (n1 + 1) cp', .slice a2 n2 c2]) rfl rfl (by kernel_rfl) (by kernel_rfl) (by kernel_rfl) (fun _ _ _ h => h) (y_built (blt_pic2 p' a2 (n1 + 1) cp' n2 c2) rfl (by go_simp) rfl) HQ ?_
        (try simp only [Act.put, List.setIfInBounds_toArray, List.set_cons_zero, List.set_cons_succ])
        clear HQ
        refine wpAnyH_all (rs := [11]) (by kernel_rfl) (by simp) ?_
        intro i hi
        obtain rfl := List.mem_singleton.1 hi
        refine wpOp_of rfl rfl ?_
        refine w_call (f := 12) (args := #[.agg #[.slice p' (n1 + 1) cp', .slice a2 n2 c2], .agg #[.int .u8 (r0 : Int), .int .u8 (r1 : Int), .int .u8 (r2 : Int), .int .u8 (r3 : Int), .int .u8 (r4 : Int), .int .u8 126, .int .u8 0, .int .u8 (r7 : Int), .int .u8 (r8 : Int), .int .u8 (r9 : Int), .int .u8 (r10 : Int)]]) (fun w => rfl) (by go_simp) ?_
        refine (build_f p' a2 (n1 + 1) cp' n2 c2 (spSnoc sp n1 (ev3 e0 e1 e2)) tl r0 r1 r2 r3 r4 r7 r8 r9 r10 _ (tri_now HR (Own.rows HM4.out) HSC1.out) (HT2.out.under (Own.fin HM4)) HC64.out L2.out yc HYC).mono ?_
        rintro e w4 ⟨gc, rfl, hg, hW, hb⟩
        have HMe := Lib.hid (Own.front (l := (gc, 5, b8 16384 yc) :: (gC, 36, [.int .u8 (e0 : Int), .int .u8 (e1 : Int), .int .u8 (e2 : Int)]) :: ((gb, 5, b8 16384 yb) :: (ga, 5, b8 16384 ya) :: (g3, 36, [.int .u8 (e0 : Int), .int .u8 (e1 : Int), .int .u8 (e2 : Int)]) :: (g2, 26, [.int .u8 (r0 : Int), .int .u8 (r1 : Int), .int .u8 (r2 : Int), .int .u8 (r3 : Int), .int .u8 (r4 : Int), .int .u8 126, .int .u8 0, .int .u8 (r7 : Int), .int .u8 (r8 : Int), .int .u8 (r9 : Int), .int .u8 (r10 : Int)]) :: (g1, 31, [.slice a1 n1 c1, .slice a2 n2 c2]) :: [])) (HM4.out.plus hb hg hW)).swap2.forget
        refine ⟨_, rfl, HMe.out.forget, ?_⟩
        clear hg hW hb HM4
        change wpAnyH _ _ _ _ _ _ _ (Act.put _ (some 56) _) _
        (try simp only [Act.put, List.setIfInBounds_toArray, List.set_cons_zero, List.set_cons_succ])
        have HQ := HMe.out.forget
        refine h_take (i := 12) (d := 9) (v := .slice (some ⟨gc, 0, none⟩) 16384 16384) rfl rfl (by kernel_rfl) (by kernel_rfl) (by kernel_rfl) (fun _ _ _ h => h) (y_pure rfl (fun w => by go_simp)) HQ ?_
        (try simp only [Act.put, List.setIfInBounds_toArray, List.set_cons_zero, List.set_cons_succ])
        clear HQ HR
        refine wpAnyH_done (by kernel_rfl) ?_ _
        go_wp2_with fail
        go_meet
        exact ⟨gc, rfl, HMe⟩
    · refine wpOp_of rfl rfl ?_
      refine w_made (e := 36) HM0 rfl hmE (by go_simp) ?_
      intro w0 gC HM1
      refine ⟨HM1.out.forget, ?_⟩
      clear HM0
      change wpAnyH _ _ _ _ _ _ _ (Act.put _ (some 50) _) _
      (try simp only [Act.put, List.setIfInBounds_toArray, List.set_cons_zero, List.set_cons_succ])
      refine wpAnyH_all (rs := [0]) (by kernel_rfl) (by simp) ?_
      intro i hi
      obtain rfl := List.mem_singleton.1 hi
      refine wpOp_of rfl rfl ?_
      refine w_made (e := 36) HM1 rfl made_t0 (by go_simp) ?_
      intro w1 gA HM2
      refine ⟨HM2.out.forget.forget, ?_⟩
      clear HM1
      change wpAnyH _ _ _ _ _ _ _ (Act.put _ (some 45) _) _
      (try simp only [Act.put, List.setIfInBounds_toArray, List.set_cons_zero, List.set_cons_succ])
      refine wpAnyH_all (rs := [3]) (by kernel_rfl) (by simp) ?_
      intro i hi
      obtain rfl := List.mem_singleton.1 hi
      refine wpOp_of rfl rfl ?_
      refine w_append (L := (gC, 36, [.int .u8 (e0 : Int), .int .u8 (e1 : Int), .int .u8 (e2 : Int)]) :: ((gb, 5, b8 16384 yb) :: (ga, 5, b8 16384 ya) :: (g3, 36, [.int .u8 (e0 : Int), .int .u8 (e1 : Int), .int .u8 (e2 : Int)]) :: (g2, 26, [.int .u8 (r0 : Int), .int .u8 (r1 : Int), .int .u8 (r2 : Int), .int .u8 (r3 : Int), .int .u8 (r4 : Int), .int .u8 126, .int .u8 0, .int .u8 (r7 : Int), .int .u8 (r8 : Int), .int .u8 (r9 : Int), .int .u8 (r10 : Int)]) :: (g1, 31, [.slice a1 n1 c1, .slice a2 n2 c2]) :: [])) (R := [(gA, 36, [])]) (m := n1) (news := tris sp n1) HM2 (Lib.hid (RowN.fresh 3 36 gA 0 [] rfl (by decide))) (List.perm_append_singleton _ _).symm rfl rfl rfl (src_tri (HT1.out.under (Own.fin HM2)) HNIL.out) Try.underlying29 hi3 hy0 hy1 hy2 rfl (by decide) (by decide) (tris_length sp n1) (tris_all sp n1) (by have := L3.out; omega) ?_
      intro v' w2 RB HRB' HM3
      have HRB : Hid (RowN 3 36 RB v' n1 (tris sp n1)) := Lib.hid (by have e := HRB'.out; rw [Nat.zero_add, List.nil_append] at e; exact e)
      refine ⟨Own.front (R := RB) HM3.out.forget, ?_⟩
      clear HM2 HRB'
      change wpAnyH _ _ _ _ _ _ _ (Act.put _ (some 48) _) _
      (try simp only [Act.put, List.setIfInBounds_toArray, List.set_cons_zero, List.set_cons_succ])
      refine wpAnyH_all (rs := [6]) (by kernel_rfl) (by simp) ?_
      intro i hi
      obtain rfl := List.mem_singleton.1 hi
      refine wpOp_of rfl rfl ?_
      refine w_append (L := (gC, 36, [.int .u8 (e0 : Int), .int .u8 (e1 : Int), .int .u8 (e2 : Int)]) :: ((gb, 5, b8 16384 yb) :: (ga, 5, b8 16384 ya) :: (g3, 36, [.int .u8 (e0 : Int), .int .u8 (e1 : Int), .int .u8 (e2 : Int)]) :: (g2, 26, [.int .u8 (r0 : Int), .int .u8 (r1 : Int), .int .u8 (r2 : Int), .int .u8 (r3 : Int), .int .u8 (r4 : Int), .int .u8 126, .int .u8 0, .int .u8 (r7 : Int), .int .u8 (r8 : Int), .int .u8 (r9 : Int), .int .u8 (r10 : Int)]) :: (g1, 31, [.slice a1 n1 c1, .slice a2 n2 c2]) :: [])) (R := RB) (m := 1) (news := [.int .u8 (e0 : Int), .int .u8 (e1 : Int), .int .u8 (e2 : Int)]) HM3 HRB (List.Perm.refl _) rfl rfl rfl (src_own (HM3.out.whole (gC, 36, [.int .u8 (e0 : Int), .int .u8 (e1 : Int), .int .u8 (e2 : Int)]) (by simp)).2) Try.underlying29 hi3 hy0 hy1 hy2 rfl (by decide) (by decide) rfl rfl (by have := L3.out; omega) ?_
      intro v' w3 RD HR' HM4
      obtain ⟨p', cp', rfl⟩ := HR'.out.slice
      have HR := HR'.out
      rw [show tris sp n1 ++ [.int .u8 (e0 : Int), .int .u8 (e1 : Int), .int .u8 (e2 : Int)] = tris (spSnoc sp n1 (ev3 e0 e1 e2)) (n1 + 1) from tris_snoc sp n1 (ev3 e0 e1 e2)] at HR
      refine ⟨HM4.out.front.forget, ?_⟩
      clear HM3 HR' HRB
      change wpAnyH _ _ _ _ _ _ _ (Act.put _ (some 51) _) _
      (try simp only [Act.put, List.setIfInBounds_toArray, List.set_cons_zero, List.set_cons_succ])
      have HQ := HM4.out.front.forget
      refine h_take (i := 9) (d := 54) (v := .agg #[.slice p' (n1 + 1) cp', .slice a2 n2 c2]) rfl rfl (by kernel_rfl) (by kernel_rfl) (by kernel_rfl) (fun _ _ _ h => h) (y_built (blt_pic2 p' a2 (n1 + 1) cp' n2 c2) rfl (by go_simp) rfl) HQ ?_
      (try simp only [Act.put, List.setIfInBounds_toArray, List.set_cons_zero, List.set_cons_succ])
      clear HQ
      refine wpAnyH_all (rs := [11]) (by kernel_rfl) (by simp) ?_
      intro i hi
      obtain rfl := List.mem_singleton.1 hi
      refine wpOp_of rfl rfl ?_
      refine w_call (f := 12) (args := #[.agg #[.slice p' (n1 + 1) cp', .slice a2 n2 c2], .agg #[.int .u8 (r0 : Int), .int .u8 (r1 : Int), .int .u8 (r2 : Int), .int .u8 (r3 : Int), .int .u8 (r4 : Int), .int .u8 126, .int .u8 0, .int .u8 (r7 : Int), .int .u8 (r8 : Int), .int .u8 (r9 : Int), .int .u8 (r10 : Int)]]) (fun w => rfl) (by go_simp) ?_
      refine (build_f p' a2 (n1 + 1) cp' n2 c2 (spSnoc sp n1 (ev3 e0 e1 e2)) tl r0 r1 r2 r3 r4 r7 r8 r9 r10 _ (tri_now HR (Own.rows HM4.out) HSC1.out) (HT2.out.under (Own.fin HM4)) HC64.out L2.out yc HYC).mono ?_
      rintro e w4 ⟨gc, rfl, hg, hW, hb⟩
      have HMe := Lib.hid (Own.front (l := (gc, 5, b8 16384 yc) :: (gC, 36, [.int .u8 (e0 : Int), .int .u8 (e1 : Int), .int .u8 (e2 : Int)]) :: ((gb, 5, b8 16384 yb) :: (ga, 5, b8 16384 ya) :: (g3, 36, [.int .u8 (e0 : Int), .int .u8 (e1 : Int), .int .u8 (e2 : Int)]) :: (g2, 26, [.int .u8 (r0 : Int), .int .u8 (r1 : Int), .int .u8 (r2 : Int), .int .u8 (r3 : Int), .int .u8 (r4 : Int), .int .u8 126, .int .u8 0, .int .u8 (r7 : Int), .int .u8 (r8 : Int), .int .u8 (r9 : Int), .int .u8 (r10 : Int)]) :: (g1, 31, [.slice a1 n1 c1, .slice a2 n2 c2]) :: [])) (HM4.out.plus hb hg hW)).swap2.forget
      refine ⟨_, rfl, HMe.out.forget, ?_⟩
      clear hg hW hb HM4
      change wpAnyH _ _ _ _ _ _ _ (Act.put _ (some 56) _) _
      (try simp only [Act.put, List.setIfInBounds_toArray, List.set_cons_zero, List.set_cons_succ])
      have HQ := HMe.out.forget
      refine h_take (i := 12) (d := 9) (v := .slice (some ⟨gc, 0, none⟩) 16384 16384) rfl rfl (by kernel_rfl) (by kernel_rfl) (by kernel_rfl) (fun _ _ _ h => h) (y_pure rfl (fun w => by go_simp)) HQ ?_
      (try simp only [Act.put, List.setIfInBounds_toArray, List.set_cons_zero, List.set_cons_succ])
      clear HQ HR
      refine wpAnyH_done (by kernel_rfl) ?_ _
      go_wp2_with fail
      go_meet
      exact ⟨gc, rfl, HMe⟩
  case' rest =>
    clear HM
    obtain ⟨gc, rfl, HM⟩ := hcut
    go_upto_region 11 with (first
      | (simp only [Act.put, List.setIfInBounds_toArray, List.set_cons_zero, List.set_cons_succ])
      | (go_at_call 12; (with_reducible refine (build_f a1 a2 n1 c1 n2 c2 sp tl r0 r1 r2 r3 r4 r7 r8 r9 r10 _ (HT1.out.under (Own.fin HM)) (HT2.out.under (Own.fin HM)) L1.out L2.out yd HYD).mono ?_); rintro e w' ⟨gd, rfl, hg, hW, hb⟩; have HM' := Lib.hid (HM.out.plus hb hg hW); clear HM hb hg hW; have HM := HM'; clear HM')
      | ((with_reducible apply own_box HM); exact rfl; (conv => lhs; whnf); exact rfl; exact rfl; (first | (clear tg1; intro w' g1 HM') | (clear tg2; intro w' g2 HM') | (clear tg3; intro w' g3 HM') | (clear tg4; intro w' g4 HM') | (clear tg5; intro w' g5 HM') | (clear tg6; intro w' g6 HM') | (clear tg7; intro w' g7 HM') | (clear tg8; intro w' g8 HM') | (clear tg9; intro w' g9 HM') | intro w' g' HM'); clear HM; have HM := HM'; clear HM'; all_goals skip) | ((with_reducible apply own_alloc HM); exact rfl; (first | (with_reducible exact zeroP) | (with_reducible exact zero11) | (with_reducible exact zero3) | (with_reducible exact zeroRow)); exact rfl; (first | (clear tg1; intro w' g1 HM') | (clear tg2; intro w' g2 HM') | (clear tg3; intro w' g3 HM') | (clear tg4; intro w' g4 HM') | (clear tg5; intro w' g5 HM') | (clear tg6; intro w' g6 HM') | (clear tg7; intro w' g7 HM') | (clear tg8; intro w' g8 HM') | (clear tg9; intro w' g9 HM') | intro w' g' HM'); clear HM; have HM := HM'; clear HM'; all_goals skip) | ((with_reducible apply own_cell HM); exact rfl; exact rfl; (first | (with_reducible exact oneInt) | (with_reducible exact oneBool) | (with_reducible exact oneU8) | (with_reducible exact oneBs) | (with_reducible exact oneTs)); (first | with_reducible exact .z | with_reducible exact .s .z | with_reducible exact .s (.s .z) | with_reducible exact .s (.s (.s .z)) | with_reducible exact .s (.s (.s (.s .z))) | with_reducible exact .s (.s (.s (.s (.s .z))))); (focus repeat' (first | with_reducible exact .z | with_reducible apply Drop.s)); exact rfl; all_goals skip) | ((with_reducible apply own_load HM); exact rfl; exact rfl; (first | (with_reducible exact aggP) | (with_reducible exact agg11) | (with_reducible exact agg3)); (first | with_reducible exact .z | with_reducible exact .s .z | with_reducible exact .s (.s .z) | with_reducible exact .s (.s (.s .z)) | with_reducible exact .s (.s (.s (.s .z))) | with_reducible exact .s (.s (.s (.s (.s .z))))); (focus repeat' (first | with_reducible exact .z | with_reducible apply Drop.s)); (focus repeat' (first | with_reducible exact .z | with_reducible apply Take.s)); exact rfl; all_goals skip) | ((with_reducible apply own_store HM); exact rfl; exact rfl; (conv => lhs; whnf); exact rfl; (first | with_reducible exact .z | with_reducible exact .s .z | with_reducible exact .s (.s .z) | with_reducible exact .s (.s (.s .z)) | with_reducible exact .s (.s (.s (.s .z))) | with_reducible exact .s (.s (.s (.s (.s .z))))); (focus repeat' (first | with_reducible exact .z | with_reducible apply Over.p | with_reducible apply Over.s)); (first | with_reducible exact .z | with_reducible exact .s .z | with_reducible exact .s (.s .z) | with_reducible exact .s (.s (.s .z)) | with_reducible exact .s (.s (.s (.s .z))) | with_reducible exact .s (.s (.s (.s (.s .z))))); (first | (with_reducible exact (aggP).size) | (with_reducible exact (agg11).size) | (with_reducible exact (agg3).size) | (with_reducible exact (oneInt).size) | (with_reducible exact (oneBool).size) | (with_reducible exact (oneU8).size) | (with_reducible exact (oneBs).size) | (with_reducible exact (oneTs).size)); exact rfl; exact rfl; exact rfl; exact rfl; intro w' HM'; clear HM; have HM := HM'; clear HM'; all_goals skip))
    obtain ⟨fa, hfa⟩ : ∃ f, Hid (spC 16384 ya r0 r1 126 0 50 = f) := ⟨_, rfl⟩
    obtain ⟨ca, hca⟩ : ∃ f, Hid (spK 16384 ya r0 r1 126 0 50 = f) := ⟨_, rfl⟩
    obtain ⟨fb, hfb⟩ : ∃ f, Hid (spC 16384 yb r0 r1 126 0 50 = f) := ⟨_, rfl⟩
    obtain ⟨cb, hcb⟩ : ∃ f, Hid (spK 16384 yb r0 r1 126 0 50 = f) := ⟨_, rfl⟩
    obtain ⟨fc, hfc⟩ : ∃ f, Hid (spC 16384 yc r0 r1 126 0 50 = f) := ⟨_, rfl⟩
    obtain ⟨cc, hcc⟩ : ∃ f, Hid (spK 16384 yc r0 r1 126 0 50 = f) := ⟨_, rfl⟩
    obtain ⟨fd, hfd⟩ : ∃ f, Hid (spC 16384 yd r0 r1 126 0 50 = f) := ⟨_, rfl⟩
    obtain ⟨cd, hcd⟩ : ∃ f, Hid (spK 16384 yd r0 r1 126 0 50 = f) := ⟨_, rfl⟩
    obtain ⟨oa, hoa⟩ : ∃ f, Hid (spO 16384 ya r1 126 50 = f) := ⟨_, rfl⟩
    have hob : Hid (spO 16384 yb r1 126 50 = false) := Lib.hid (by rw [← HYB.out]; exact over_few _ _ _ _ _ (by have := L3.out; omega))
    have hoc : Hid (spO 16384 yc r1 126 50 = false) := Lib.hid (by rw [← HYC.out]; exact over_few _ _ _ _ _ (by have := L3.out; omega))
    have hod : Hid (spO 16384 yd r1 126 50 = false) := Lib.hid (by rw [← HYD.out]; exact over_few _ _ _ _ _ (by have := L3.out; omega))
    have AB : Hid (∀ x, ¬ fa x = 0 → fb x = fa x) := Lib.hid fun x hx => by
      rw [← hfa.out, ← HYA.out] at hx ⊢
      rw [← hfb.out, ← HYB.out]
      exact first_ahead (bTile tl n2) r0 r1 50 (ev3 e0 e1 e2) sp n1 (by have := L3.out; omega) (HEV.out 2) (fun i hi => HSP.out i hi 2 (by omega)) (fun _ => (ev3 e0 e1 e2)) rfl x hx
    have CD : Hid (∀ x, ¬ fd x = 0 → fc x = fd x) := Lib.hid fun x hx => by
      rw [← hfd.out, ← HYD.out] at hx ⊢
      rw [← hfc.out, ← HYC.out]
      exact last_behind (bTile tl n2) r0 r1 50 (ev3 e0 e1 e2) sp n1 (by have := L3.out; omega) (HEV.out 2) (fun i hi => HSP.out i hi 2 (by omega)) x hx
    go_cut [11, 12] from 60 to 65 (fun s11 s12 wx => ∃ ha hb_, s11 = .pointer (some ⟨ha, 0, none⟩) ∧ s12 = .pointer (some ⟨hb_, 0, none⟩) ∧ Hid (Own w wx ((hb_, 39, rcells fb false cb) :: (ha, 39, rcells fa oa ca) :: ((gd, 5, b8 16384 yd) :: (gc, 5, b8 16384 yc) :: (gb, 5, b8 16384 yb) :: (ga, 5, b8 16384 ya) :: (g3, 36, [.int .u8 (e0 : Int), .int .u8 (e1 : Int), .int .u8 (e2 : Int)]) :: (g2, 26, [.int .u8 (r0 : Int), .int .u8 (r1 : Int), .int .u8 (r2 : Int), .int .u8 (r3 : Int), .int .u8 (r4 : Int), .int .u8 126, .int .u8 0, .int .u8 (r7 : Int), .int .u8 (r8 : Int), .int .u8 (r9 : Int), .int .u8 (r10 : Int)]) :: (g1, 31, [.slice a1 n1 c1, .slice a2 n2 c2]) :: []))))
    case' first =>
      refine wp_region_held (S := fun w' => Own w w' ((gd, 5, b8 16384 yd) :: (gc, 5, b8 16384 yc) :: (gb, 5, b8 16384 yb) :: (ga, 5, b8 16384 ya) :: (g3, 36, [.int .u8 (e0 : Int), .int .u8 (e1 : Int), .int .u8 (e2 : Int)]) :: (g2, 26, [.int .u8 (r0 : Int), .int .u8 (r1 : Int), .int .u8 (r2 : Int), .int .u8 (r3 : Int), .int .u8 (r4 : Int), .int .u8 126, .int .u8 0, .int .u8 (r7 : Int), .int .u8 (r8 : Int), .int .u8 (r9 : Int), .int .u8 (r10 : Int)]) :: (g1, 31, [.slice a1 n1 c1, .slice a2 n2 c2]) :: [])) (by kernel_rfl) ?_
      replace HM := Lib.hid HM.out.drew
      change wpAnyH _ _ _ _ _ _ _ _ (World.drew _)
      have HQ := HM.out
      refine h_take (i := 0) (d := 60) (v := .slice (some ⟨ga, 0, none⟩) 16384 16384) rfl rfl (by kernel_rfl) (by kernel_rfl) (by kernel_rfl) (fun _ _ _ h => h) (y_pure rfl (fun w => by go_simp)) HQ ?_
      (try simp only [Act.put, List.setIfInBounds_toArray, List.set_cons_zero, List.set_cons_succ])
      refine h_take (i := 1) (d := 61) (v := .agg #[.int .u8 (r0 : Int), .int .u8 (r1 : Int), .int .u8 (r2 : Int), .int .u8 (r3 : Int), .int .u8 (r4 : Int), .int .u8 126, .int .u8 0, .int .u8 (r7 : Int), .int .u8 (r8 : Int), .int .u8 (r9 : Int), .int .u8 (r10 : Int)]) rfl rfl (by kernel_rfl) (by kernel_rfl) (by kernel_rfl) (fun _ _ _ h => h) (y_row (g := g2) rfl rfl agg11 (.s (.s (.s (.s (.s .z))))) rfl rfl) HQ ?_
      (try simp only [Act.put, List.setIfInBounds_toArray, List.set_cons_zero, List.set_cons_succ])
      refine h_take (i := 3) (d := 63) (v := .slice (some ⟨gb, 0, none⟩) 16384 16384) rfl rfl (by kernel_rfl) (by kernel_rfl) (by kernel_rfl) (fun _ _ _ h => h) (y_pure rfl (fun w => by go_simp)) HQ ?_
      (try simp only [Act.put, List.setIfInBounds_toArray, List.set_cons_zero, List.set_cons_succ])
      refine h_take (i := 4) (d := 64) (v := .agg #[.int .u8 (r0 : Int), .int .u8 (r1 : Int), .int .u8 (r2 : Int), .int .u8 (r3 : Int), .int .u8 (r4 : Int), .int .u8 126, .int .u8 0, .int .u8 (r7 : Int), .int .u8 (r8 : Int), .int .u8 (r9 : Int), .int .u8 (r10 : Int)]) rfl rfl (by kernel_rfl) (by kernel_rfl) (by kernel_rfl) (fun _ _ _ h => h) (y_row (g := g2) rfl rfl agg11 (.s (.s (.s (.s (.s .z))))) rfl rfl) HQ ?_
      (try simp only [Act.put, List.setIfInBounds_toArray, List.set_cons_zero, List.set_cons_succ])
      clear HQ
      have HM0 := HM
      clear HM
      refine wpAnyH_all (rs := [2, 6, 7]) (by kernel_rfl) (by simp) ?_
      intro i hi
      simp only [List.mem_cons, List.not_mem_nil, or_false] at hi
      rcases hi with rfl | rfl | rfl
      · refine wpOp_of rfl rfl ?_
        refine w_call (f := 15) (args := #[.slice (some ⟨ga, 0, none⟩) 16384 16384, .agg #[.int .u8 (r0 : Int), .int .u8 (r1 : Int), .int .u8 (r2 : Int), .int .u8 (r3 : Int), .int .u8 (r4 : Int), .int .u8 126, .int .u8 0, .int .u8 (r7 : Int), .int .u8 (r8 : Int), .int .u8 (r9 : Int), .int .u8 (r10 : Int)], .int .i64 50]) (fun w => rfl) (by go_simp) ?_
        refine (line_f (some ⟨ga, 0, none⟩) 16384 16384 ya r0 r1 r2 r3 r4 r7 r8 r9 r10 50 H0.out H1.out H50.out H50'.out fa oa ca hfa hoa hca _ (HM0.out.byteRow (.s (.s (.s .z))) HVa.out)).mono ?_
        rintro e w0 ⟨rfl, hb⟩
        have HM1 := Lib.hid (HM0.out.call hb)
        refine ⟨_, rfl, HM1.out, ?_⟩
        clear hb HM0
        change wpAnyH _ _ _ _ _ _ _ (Act.put _ (some 62) _) _
        (try simp only [Act.put, List.setIfInBounds_toArray, List.set_cons_zero, List.set_cons_succ])
        refine wpAnyH_all (rs := [5, 6, 7]) (by kernel_rfl) (by simp) ?_
        intro i hi
        simp only [List.mem_cons, List.not_mem_nil, or_false] at hi
        rcases hi with rfl | rfl | rfl
        · refine wpOp_of rfl rfl ?_
          refine w_call (f := 15) (args := #[.slice (some ⟨gb, 0, none⟩) 16384 16384, .agg #[.int .u8 (r0 : Int), .int .u8 (r1 : Int), .int .u8 (r2 : Int), .int .u8 (r3 : Int), .int .u8 (r4 : Int), .int .u8 126, .int .u8 0, .int .u8 (r7 : Int), .int .u8 (r8 : Int), .int .u8 (r9 : Int), .int .u8 (r10 : Int)], .int .i64 50]) (fun w => rfl) (by go_simp) ?_
          refine (line_f (some ⟨gb, 0, none⟩) 16384 16384 yb r0 r1 r2 r3 r4 r7 r8 r9 r10 50 H0.out H1.out H50.out H50'.out fb false cb hfb hob hcb _ (HM1.out.byteRow (.s (.s .z)) HVb.out)).mono ?_
          rintro e w1 ⟨rfl, hb⟩
          have HM2 := Lib.hid (HM1.out.call hb)
          refine ⟨_, rfl, HM2.out, ?_⟩
          clear hb HM1
          change wpAnyH _ _ _ _ _ _ _ (Act.put _ (some 65) _) _
          (try simp only [Act.put, List.setIfInBounds_toArray, List.set_cons_zero, List.set_cons_succ])
          refine wpAnyH_all (rs := [6, 7]) (by kernel_rfl) (by simp) ?_
          intro i hi
          simp only [List.mem_cons, List.not_mem_nil, or_false] at hi
          rcases hi with rfl | rfl
          · refine wpOp_of rfl rfl ?_
            refine w_alloc HM2 rfl zeroRow ?_
            intro w2 ha HM3
            refine ⟨HM3.out.forget, ?_⟩
            clear HM2
            change wpAnyH _ _ _ _ _ _ _ (Act.put _ (some 11) _) _
            (try simp only [Act.put, List.setIfInBounds_toArray, List.set_cons_zero, List.set_cons_succ])
            refine wpAnyH_all (rs := [7]) (by kernel_rfl) (by simp) ?_
            intro i hi
            obtain rfl := List.mem_singleton.1 hi
            refine wpOp_of rfl rfl ?_
            refine w_alloc HM3 rfl zeroRow ?_
            intro w3 hb_ HM4
            refine ⟨HM4.out.forget.forget, ?_⟩
            clear HM3
            change wpAnyH _ _ _ _ _ _ _ (Act.put _ (some 12) _) _
            (try simp only [Act.put, List.setIfInBounds_toArray, List.set_cons_zero, List.set_cons_succ])
            refine wpAnyH_all (rs := [8]) (by kernel_rfl) (by simp) ?_
            intro i hi
            obtain rfl := List.mem_singleton.1 hi
            refine wpOp_of rfl rfl ?_
            refine w_lay HM4 rfl rfl rfl (.s .z) (.s .z) aggRow.size (rcells_length _ _ _) (rcells_length _ _ _) (rcells_one _ _ _) rfl ?_
            intro w4 HM5
            refine ⟨HM5.out.forget.forget, ?_⟩
            clear HM4
            refine wpAnyH_all (rs := [9]) (by kernel_rfl) (by simp) ?_
            intro i hi
            obtain rfl := List.mem_singleton.1 hi
            refine wpOp_of rfl rfl ?_
            refine w_lay HM5 rfl rfl rfl .z .z aggRow.size (rcells_length _ _ _) (rcells_length _ _ _) (rcells_one _ _ _) rfl ?_
            intro w5 HM6
            refine ⟨HM6.out.forget.forget, ?_⟩
            clear HM5
            refine wpAnyH_done (by kernel_rfl) ?_ _
            go_wp2_with fail
            go_meet
            exact ⟨ha, hb_, rfl, rfl, HM6⟩
          · refine wpOp_of rfl rfl ?_
            refine w_alloc HM2 rfl zeroRow ?_
            intro w2 hb_ HM3
            refine ⟨HM3.out.forget, ?_⟩
            clear HM2
            change wpAnyH _ _ _ _ _ _ _ (Act.put _ (some 12) _) _
            (try simp only [Act.put, List.setIfInBounds_toArray, List.set_cons_zero, List.set_cons_succ])
            refine wpAnyH_all (rs := [6]) (by kernel_rfl) (by simp) ?_
            intro i hi
            obtain rfl := List.mem_singleton.1 hi
            refine wpOp_of rfl rfl ?_
            refine w_alloc HM3 rfl zeroRow ?_
            intro w3 ha HM4
            refine ⟨HM4.out.forget.forget, ?_⟩
            clear HM3
            change wpAnyH _ _ _ _ _ _ _ (Act.put _ (some 11) _) _
            (try simp only [Act.put, List.setIfInBounds_toArray, List.set_cons_zero, List.set_cons_succ])
            refine wpAnyH_all (rs := [8]) (by kernel_rfl) (by simp) ?_
            intro i hi
            obtain rfl := List.mem_singleton.1 hi
            refine wpOp_of rfl rfl ?_
            refine w_lay HM4 rfl rfl rfl .z .z aggRow.size (rcells_length _ _ _) (rcells_length _ _ _) (rcells_one _ _ _) rfl ?_
            intro w4 HM5
            refine ⟨HM5.out.forget.forget, ?_⟩
            clear HM4
            refine wpAnyH_all (rs := [9]) (by kernel_rfl) (by simp) ?_
            intro i hi
            obtain rfl := List.mem_singleton.1 hi
            refine wpOp_of rfl rfl ?_
            refine w_lay HM5 rfl rfl rfl (.s .z) (.s .z) aggRow.size (rcells_length _ _ _) (rcells_length _ _ _) (rcells_one _ _ _) rfl ?_
            intro w5 HM6
            refine ⟨HM6.out.forget.forget, ?_⟩
            clear HM5
            refine wpAnyH_done (by kernel_rfl) ?_ _
            go_wp2_with fail
            go_meet
            exact ⟨ha, hb_, rfl, rfl, (Lib.hid HM6.out.swap2)⟩
        · refine wpOp_of rfl rfl ?_
          refine w_alloc HM1 rfl zeroRow ?_
          intro w1 ha HM2
          refine ⟨HM2.out.forget, ?_⟩
          clear HM1
          change wpAnyH _ _ _ _ _ _ _ (Act.put _ (some 11) _) _
          (try simp only [Act.put, List.setIfInBounds_toArray, List.set_cons_zero, List.set_cons_succ])
          refine wpAnyH_all (rs := [5, 7]) (by kernel_rfl) (by simp) ?_
          intro i hi
          simp only [List.mem_cons, List.not_mem_nil, or_false] at hi
          rcases hi with rfl | rfl
          · refine wpOp_of rfl rfl ?_
            refine w_call (f := 15) (args := #[.slice (some ⟨gb, 0, none⟩) 16384 16384, .agg #[.int .u8 (r0 : Int), .int .u8 (r1 : Int), .int .u8 (r2 : Int), .int .u8 (r3 : Int), .int .u8 (r4 : Int), .int .u8 126, .int .u8 0, .int .u8 (r7 : Int), .int .u8 (r8 : Int), .int .u8 (r9 : Int), .int .u8 (r10 : Int)], .int .i64 50]) (fun w => rfl) (by go_simp) ?_
            refine (line_f (some ⟨gb, 0, none⟩) 16384 16384 yb r0 r1 r2 r3 r4 r7 r8 r9 r10 50 H0.out H1.out H50.out H50'.out fb false cb hfb hob hcb _ (HM2.out.byteRow (.s (.s (.s .z))) HVb.out)).mono ?_
            rintro e w2 ⟨rfl, hb⟩
            have HM3 := Lib.hid (HM2.out.call hb)
            refine ⟨_, rfl, HM3.out.forget, ?_⟩
            clear hb HM2
            change wpAnyH _ _ _ _ _ _ _ (Act.put _ (some 65) _) _
            (try simp only [Act.put, List.setIfInBounds_toArray, List.set_cons_zero, List.set_cons_succ])
            refine wpAnyH_all (rs := [7]) (by kernel_rfl) (by simp) ?_
            intro i hi
            obtain rfl := List.mem_singleton.1 hi
            refine wpOp_of rfl rfl ?_
            refine w_alloc HM3 rfl zeroRow ?_
            intro w3 hb_ HM4
            refine ⟨HM4.out.forget.forget, ?_⟩
            clear HM3
            change wpAnyH _ _ _ _ _ _ _ (Act.put _ (some 12) _) _
            (try simp only [Act.put, List.setIfInBounds_toArray, List.set_cons_zero, List.set_cons_succ])
            refine wpAnyH_all (rs := [8]) (by kernel_rfl) (by simp) ?_
            intro i hi
            obtain rfl := List.mem_singleton.1 hi
            refine wpOp_of rfl rfl ?_
            refine w_lay HM4 rfl rfl rfl (.s .z) (.s .z) aggRow.size (rcells_length _ _ _) (rcells_length _ _ _) (rcells_one _ _ _) rfl ?_
            intro w4 HM5
            refine ⟨HM5.out.forget.forget, ?_⟩
            clear HM4
            refine wpAnyH_all (rs := [9]) (by kernel_rfl) (by simp) ?_
            intro i hi
            obtain rfl := List.mem_singleton.1 hi
            refine wpOp_of rfl rfl ?_
            refine w_lay HM5 rfl rfl rfl .z .z aggRow.size (rcells_length _ _ _) (rcells_length _ _ _) (rcells_one _ _ _) rfl ?_
            intro w5 HM6
            refine ⟨HM6.out.forget.forget, ?_⟩
            clear HM5
            refine wpAnyH_done (by kernel_rfl) ?_ _
            go_wp2_with fail
            go_meet
            exact ⟨ha, hb_, rfl, rfl, HM6⟩
          · refine wpOp_of rfl rfl ?_
            refine w_alloc HM2 rfl zeroRow ?_
            intro w2 hb_ HM3
            refine ⟨HM3.out.forget.forget, ?_⟩
            clear HM2
            change wpAnyH _ _ _ _ _ _ _ (Act.put _ (some 12) _) _
            (try simp only [Act.put, List.setIfInBounds_toArray, List.set_cons_zero, List.set_cons_succ])
            refine wpAnyH_all (rs := [5]) (by kernel_rfl) (by simp) ?_
            intro i hi
            obtain rfl := List.mem_singleton.1 hi
            refine wpOp_of rfl rfl ?_
            refine w_call (f := 15) (args := #[.slice (some ⟨gb, 0, none⟩) 16384 16384, .agg #[.int .u8 (r0 : Int), .int .u8 (r1 : Int), .int .u8 (r2 : Int), .int .u8 (r3 : Int), .int .u8 (r4 : Int), .int .u8 126, .int .u8 0, .int .u8 (r7 : Int), .int .u8 (r8 : Int), .int .u8 (r9 : Int), .int .u8 (r10 : Int)], .int .i64 50]) (fun w => rfl) (by go_simp) ?_
            refine (line_f (some ⟨gb, 0, none⟩) 16384 16384 yb r0 r1 r2 r3 r4 r7 r8 r9 r10 50 H0.out H1.out H50.out H50'.out fb false cb hfb hob hcb _ (HM3.out.byteRow (.s (.s (.s (.s .z)))) HVb.out)).mono ?_
            rintro e w3 ⟨rfl, hb⟩
            have HM4 := Lib.hid (HM3.out.call hb)
            refine ⟨_, rfl, HM4.out.forget.forget, ?_⟩
            clear hb HM3
            change wpAnyH _ _ _ _ _ _ _ (Act.put _ (some 65) _) _
            (try simp only [Act.put, List.setIfInBounds_toArray, List.set_cons_zero, List.set_cons_succ])
            refine wpAnyH_all (rs := [8]) (by kernel_rfl) (by simp) ?_
            intro i hi
            obtain rfl := List.mem_singleton.1 hi
            refine wpOp_of rfl rfl ?_
            refine w_lay HM4 rfl rfl rfl (.s .z) (.s .z) aggRow.size (rcells_length _ _ _) (rcells_length _ _ _) (rcells_one _ _ _) rfl ?_
            intro w4 HM5
            refine ⟨HM5.out.forget.forget, ?_⟩
            clear HM4
            refine wpAnyH_all (rs := [9]) (by kernel_rfl) (by simp) ?_
            intro i hi
            obtain rfl := List.mem_singleton.1 hi
            refine wpOp_of rfl rfl ?_
            refine w_lay HM5 rfl rfl rfl .z .z aggRow.size (rcells_length _ _ _) (rcells_length _ _ _) (rcells_one _ _ _) rfl ?_
            intro w5 HM6
            refine ⟨HM6.out.forget.forget, ?_⟩
            clear HM5
            refine wpAnyH_done (by kernel_rfl) ?_ _
            go_wp2_with fail
            go_meet
            exact ⟨ha, hb_, rfl, rfl, HM6⟩
        · refine wpOp_of rfl rfl ?_
          refine w_alloc HM1 rfl zeroRow ?_
          intro w1 hb_ HM2
          refine ⟨HM2.out.forget, ?_⟩
          clear HM1
          change wpAnyH _ _ _ _ _ _ _ (Act.put _ (some 12) _) _
          (try simp only [Act.put, List.setIfInBounds_toArray, List.set_cons_zero, List.set_cons_succ])
          refine wpAnyH_all (rs := [5, 6]) (by kernel_rfl) (by simp) ?_
          intro i hi
          simp only [List.mem_cons, List.not_mem_nil, or_false] at hi
          rcases hi with rfl | rfl
          · refine wpOp_of rfl rfl ?_
            refine w_call (f := 15) (args := #[.slice (some ⟨gb, 0, none⟩) 16384 16384, .agg #[.int .u8 (r0 : Int), .int .u8 (r1 : Int), .int .u8 (r2 : Int), .int .u8 (r3 : Int), .int .u8 (r4 : Int), .int .u8 126, .int .u8 0, .int .u8 (r7 : Int), .int .u8 (r8 : Int), .int .u8 (r9 : Int), .int .u8 (r10 : Int)], .int .i64 50]) (fun w => rfl) (by go_simp) ?_
            refine (line_f (some ⟨gb, 0, none⟩) 16384 16384 yb r0 r1 r2 r3 r4 r7 r8 r9 r10 50 H0.out H1.out H50.out H50'.out fb false cb hfb hob hcb _ (HM2.out.byteRow (.s (.s (.s .z))) HVb.out)).mono ?_
            rintro e w2 ⟨rfl, hb⟩
            have HM3 := Lib.hid (HM2.out.call hb)
            refine ⟨_, rfl, HM3.out.forget, ?_⟩
            clear hb HM2
            change wpAnyH _ _ _ _ _ _ _ (Act.put _ (some 65) _) _
            (try simp only [Act.put, List.setIfInBounds_toArray, List.set_cons_zero, List.set_cons_succ])
            refine wpAnyH_all (rs := [6]) (by kernel_rfl) (by simp) ?_
            intro i hi
            obtain rfl := List.mem_singleton.1 hi
            refine wpOp_of rfl rfl ?_
            refine w_alloc HM3 rfl zeroRow ?_
            intro w3 ha HM4
            refine ⟨HM4.out.forget.forget, ?_⟩
            clear HM3
            change wpAnyH _ _ _ _ _ _ _ (Act.put _ (some 11) _) _
            (try simp only [Act.put, List.setIfInBounds_toArray, List.set_cons_zero, List.set_cons_succ])
            refine wpAnyH_all (rs := [8]) (by kernel_rfl) (by simp) ?_
            intro i hi
            obtain rfl := List.mem_singleton.1 hi
            refine wpOp_of rfl rfl ?_
            refine w_lay HM4 rfl rfl rfl .z .z aggRow.size (rcells_length _ _ _) (rcells_length _ _ _) (rcells_one _ _ _) rfl ?_
            intro w4 HM5
            refine ⟨HM5.out.forget.forget, ?_⟩
            clear HM4
            refine wpAnyH_all (rs := [9]) (by kernel_rfl) (by simp) ?_
            intro i hi
            obtain rfl := List.mem_singleton.1 hi
            refine wpOp_of rfl rfl ?_
            refine w_lay HM5 rfl rfl rfl (.s .z) (.s .z) aggRow.size (rcells_length _ _ _) (rcells_length _ _ _) (rcells_one _ _ _) rfl ?_
            intro w5 HM6
            refine ⟨HM6.out.forget.forget, ?_⟩
            clear HM5
            refine wpAnyH_done (by kernel_rfl) ?_ _
            go_wp2_with fail
            go_meet
            exact ⟨ha, hb_, rfl, rfl, (Lib.hid HM6.out.swap2)⟩
          · refine wpOp_of rfl rfl ?_
            refine w_alloc HM2 rfl zeroRow ?_
            intro w2 ha HM3
            refine ⟨HM3.out.forget.forget, ?_⟩
            clear HM2
            change wpAnyH _ _ _ _ _ _ _ (Act.put _ (some 11) _) _
            (try simp only [Act.put, List.setIfInBounds_toArray, List.set_cons_zero, List.set_cons_succ])
            refine wpAnyH_all (rs := [5]) (by kernel_rfl) (by simp) ?_
            intro i hi
            obtain rfl := List.mem_singleton.1 hi
            refine wpOp_of rfl rfl ?_
            refine w_call (f := 15) (args := #[.slice (some ⟨gb, 0, none⟩) 16384 16384, .agg #[.int .u8 (r0 : Int), .int .u8 (r1 : Int), .int .u8 (r2 : Int), .int .u8 (r3 : Int), .int .u8 (r4 : Int), .int .u8 126, .int .u8 0, .int .u8 (r7 : Int), .int .u8 (r8 : Int), .int .u8 (r9 : Int), .int .u8 (r10 : Int)], .int .i64 50]) (fun w => rfl) (by go_simp) ?_
            refine (line_f (some ⟨gb, 0, none⟩) 16384 16384 yb r0 r1 r2 r3 r4 r7 r8 r9 r10 50 H0.out H1.out H50.out H50'.out fb false cb hfb hob hcb _ (HM3.out.byteRow (.s (.s (.s (.s .z)))) HVb.out)).mono ?_
            rintro e w3 ⟨rfl, hb⟩
            have HM4 := Lib.hid (HM3.out.call hb)
            refine ⟨_, rfl, HM4.out.forget.forget, ?_⟩
            clear hb HM3
            change wpAnyH _ _ _ _ _ _ _ (Act.put _ (some 65) _) _
            (try simp only [Act.put, List.setIfInBounds_toArray, List.set_cons_zero, List.set_cons_succ])
            refine wpAnyH_all (rs := [8]) (by kernel_rfl) (by simp) ?_
            intro i hi
            obtain rfl := List.mem_singleton.1 hi
            refine wpOp_of rfl rfl ?_
            refine w_lay HM4 rfl rfl rfl .z .z aggRow.size (rcells_length _ _ _) (rcells_length _ _ _) (rcells_one _ _ _) rfl ?_
            intro w4 HM5
            refine ⟨HM5.out.forget.forget, ?_⟩
            clear HM4
            refine wpAnyH_all (rs := [9]) (by kernel_rfl) (by simp) ?_
            intro i hi
            obtain rfl := List.mem_singleton.1 hi
            refine wpOp_of rfl rfl ?_
            refine w_lay HM5 rfl rfl rfl (.s .z) (.s .z) aggRow.size (rcells_length _ _ _) (rcells_length _ _ _) (rcells_one _ _ _) rfl ?_
            intro w5 HM6
            refine ⟨HM6.out.forget.forget, ?_⟩
            clear HM5
            refine wpAnyH_done (by kernel_rfl) ?_ _
            go_wp2_with fail
            go_meet
            exact ⟨ha, hb_, rfl, rfl, (Lib.hid HM6.out.swap2)⟩
      · refine wpOp_of rfl rfl ?_
        refine w_alloc HM0 rfl zeroRow ?_
        intro w0 ha HM1
        refine ⟨HM1.out.forget, ?_⟩
        clear HM0
        change wpAnyH _ _ _ _ _ _ _ (Act.put _ (some 11) _) _
        (try simp only [Act.put, List.setIfInBounds_toArray, List.set_cons_zero, List.set_cons_succ])
        refine wpAnyH_all (rs := [2, 7]) (by kernel_rfl) (by simp) ?_
        intro i hi
        simp only [List.mem_cons, List.not_mem_nil, or_false] at hi
        rcases hi with rfl | rfl
        · refine wpOp_of rfl rfl ?_
          refine w_call (f := 15) (args := #[.slice (some ⟨ga, 0, none⟩) 16384 16384, .agg #[.int .u8 (r0 : Int), .int .u8 (r1 : Int), .int .u8 (r2 : Int), .int .u8 (r3 : Int), .int .u8 (r4 : Int), .int .u8 126, .int .u8 0, .int .u8 (r7 : Int), .int .u8 (r8 : Int), .int .u8 (r9 : Int), .int .u8 (r10 : Int)], .int .i64 50]) (fun w => rfl) (by go_simp) ?_
          refine (line_f (some ⟨ga, 0, none⟩) 16384 16384 ya r0 r1 r2 r3 r4 r7 r8 r9 r10 50 H0.out H1.out H50.out H50'.out fa oa ca hfa hoa hca _ (HM1.out.byteRow (.s (.s (.s (.s .z)))) HVa.out)).mono ?_
          rintro e w1 ⟨rfl, hb⟩
          have HM2 := Lib.hid (HM1.out.call hb)
          refine ⟨_, rfl, HM2.out.forget, ?_⟩
          clear hb HM1
          change wpAnyH _ _ _ _ _ _ _ (Act.put _ (some 62) _) _
          (try simp only [Act.put, List.setIfInBounds_toArray, List.set_cons_zero, List.set_cons_succ])
          refine wpAnyH_all (rs := [5, 7]) (by kernel_rfl) (by simp) ?_
          intro i hi
          simp only [List.mem_cons, List.not_mem_nil, or_false] at hi
          rcases hi with rfl | rfl
          · refine wpOp_of rfl rfl ?_
            refine w_call (f := 15) (args := #[.slice (some ⟨gb, 0, none⟩) 16384 16384, .agg #[.int .u8 (r0 : Int), .int .u8 (r1 : Int), .int .u8 (r2 : Int), .int .u8 (r3 : Int), .int .u8 (r4 : Int), .int .u8 126, .int .u8 0, .int .u8 (r7 : Int), .int .u8 (r8 : Int), .int .u8 (r9 : Int), .int .u8 (r10 : Int)], .int .i64 50]) (fun w => rfl) (by go_simp) ?_
            refine (line_f (some ⟨gb, 0, none⟩) 16384 16384 yb r0 r1 r2 r3 r4 r7 r8 r9 r10 50 H0.out H1.out H50.out H50'.out fb false cb hfb hob hcb _ (HM2.out.byteRow (.s (.s (.s .z))) HVb.out)).mono ?_
            rintro e w2 ⟨rfl, hb⟩
            have HM3 := Lib.hid (HM2.out.call hb)
            refine ⟨_, rfl, HM3.out.forget, ?_⟩
            clear hb HM2
            change wpAnyH _ _ _ _ _ _ _ (Act.put _ (some 65) _) _
            (try simp only [Act.put, List.setIfInBounds_toArray, List.set_cons_zero, List.set_cons_succ])
            refine wpAnyH_all (rs := [7]) (by kernel_rfl) (by simp) ?_
            intro i hi
            obtain rfl := List.mem_singleton.1 hi
            refine wpOp_of rfl rfl ?_
            refine w_alloc HM3 rfl zeroRow ?_
            intro w3 hb_ HM4
            refine ⟨HM4.out.forget.forget, ?_⟩
            clear HM3
            change wpAnyH _ _ _ _ _ _ _ (Act.put _ (some 12) _) _
            (try simp only [Act.put, List.setIfInBounds_toArray, List.set_cons_zero, List.set_cons_succ])
            refine wpAnyH_all (rs := [8]) (by kernel_rfl) (by simp) ?_
            intro i hi
            obtain rfl := List.mem_singleton.1 hi
            refine wpOp_of rfl rfl ?_
            refine w_lay HM4 rfl rfl rfl (.s .z) (.s .z) aggRow.size (rcells_length _ _ _) (rcells_length _ _ _) (rcells_one _ _ _) rfl ?_
            intro w4 HM5
            refine ⟨HM5.out.forget.forget, ?_⟩
            clear HM4
            refine wpAnyH_all (rs := [9]) (by kernel_rfl) (by simp) ?_
            intro i hi
            obtain rfl := List.mem_singleton.1 hi
            refine wpOp_of rfl rfl ?_
            refine w_lay HM5 rfl rfl rfl .z .z aggRow.size (rcells_length _ _ _) (rcells_length _ _ _) (rcells_one _ _ _) rfl ?_
            intro w5 HM6
            refine ⟨HM6.out.forget.forget, ?_⟩
            clear HM5
            refine wpAnyH_done (by kernel_rfl) ?_ _
            go_wp2_with fail
            go_meet
            exact ⟨ha, hb_, rfl, rfl, HM6⟩
          · refine wpOp_of rfl rfl ?_
            refine w_alloc HM2 rfl zeroRow ?_
            intro w2 hb_ HM3
            refine ⟨HM3.out.forget.forget, ?_⟩
            clear HM2
            change wpAnyH _ _ _ _ _ _ _ (Act.put _ (some 12) _) _
            (try simp only [Act.put, List.setIfInBounds_toArray, List.set_cons_zero, List.set_cons_succ])
            refine wpAnyH_all (rs := [5]) (by kernel_rfl) (by simp) ?_
            intro i hi
            obtain rfl := List.mem_singleton.1 hi
            refine wpOp_of rfl rfl ?_
            refine w_call (f := 15) (args := #[.slice (some ⟨gb, 0, none⟩) 16384 16384, .agg #[.int .u8 (r0 : Int), .int .u8 (r1 : Int), .int .u8 (r2 : Int), .int .u8 (r3 : Int), .int .u8 (r4 : Int), .int .u8 126, .int .u8 0, .int .u8 (r7 : Int), .int .u8 (r8 : Int), .int .u8 (r9 : Int), .int .u8 (r10 : Int)], .int .i64 50]) (fun w => rfl) (by go_simp) ?_
            refine (line_f (some ⟨gb, 0, none⟩) 16384 16384 yb r0 r1 r2 r3 r4 r7 r8 r9 r10 50 H0.out H1.out H50.out H50'.out fb false cb hfb hob hcb _ (HM3.out.byteRow (.s (.s (.s (.s .z)))) HVb.out)).mono ?_
            rintro e w3 ⟨rfl, hb⟩
            have HM4 := Lib.hid (HM3.out.call hb)
            refine ⟨_, rfl, HM4.out.forget.forget, ?_⟩
            clear hb HM3
            change wpAnyH _ _ _ _ _ _ _ (Act.put _ (some 65) _) _
            (try simp only [Act.put, List.setIfInBounds_toArray, List.set_cons_zero, List.set_cons_succ])
            refine wpAnyH_all (rs := [8]) (by kernel_rfl) (by simp) ?_
            intro i hi
            obtain rfl := List.mem_singleton.1 hi
            refine wpOp_of rfl rfl ?_
            refine w_lay HM4 rfl rfl rfl (.s .z) (.s .z) aggRow.size (rcells_length _ _ _) (rcells_length _ _ _) (rcells_one _ _ _) rfl ?_
            intro w4 HM5
            refine ⟨HM5.out.forget.forget, ?_⟩
            clear HM4
            refine wpAnyH_all (rs := [9]) (by kernel_rfl) (by simp) ?_
            intro i hi
            obtain rfl := List.mem_singleton.1 hi
            refine wpOp_of rfl rfl ?_
            refine w_lay HM5 rfl rfl rfl .z .z aggRow.size (rcells_length _ _ _) (rcells_length _ _ _) (rcells_one _ _ _) rfl ?_
            intro w5 HM6
            refine ⟨HM6.out.forget.forget, ?_⟩
            clear HM5
            refine wpAnyH_done (by kernel_rfl) ?_ _
            go_wp2_with fail
            go_meet
            exact ⟨ha, hb_, rfl, rfl, HM6⟩
        · refine wpOp_of rfl rfl ?_
          refine w_alloc HM1 rfl zeroRow ?_
          intro w1 hb_ HM2
          refine ⟨HM2.out.forget.forget, ?_⟩
          clear HM1
          change wpAnyH _ _ _ _ _ _ _ (Act.put _ (some 12) _) _
          (try simp only [Act.put, List.setIfInBounds_toArray, List.set_cons_zero, List.set_cons_succ])
          refine wpAnyH_all (rs := [2]) (by kernel_rfl) (by simp) ?_
          intro i hi
          obtain rfl := List.mem_singleton.1 hi
          refine wpOp_of rfl rfl ?_
          refine w_call (f := 15) (args := #[.slice (some ⟨ga, 0, none⟩) 16384 16384, .agg #[.int .u8 (r0 : Int), .int .u8 (r1 : Int), .int .u8 (r2 : Int), .int .u8 (r3 : Int), .int .u8 (r4 : Int), .int .u8 126, .int .u8 0, .int .u8 (r7 : Int), .int .u8 (r8 : Int), .int .u8 (r9 : Int), .int .u8 (r10 : Int)], .int .i64 50]) (fun w => rfl) (by go_simp) ?_
          refine (line_f (some ⟨ga, 0, none⟩) 16384 16384 ya r0 r1 r2 r3 r4 r7 r8 r9 r10 50 H0.out H1.out H50.out H50'.out fa oa ca hfa hoa hca _ (HM2.out.byteRow (.s (.s (.s (.s (.s .z))))) HVa.out)).mono ?_
          rintro e w2 ⟨rfl, hb⟩
          have HM3 := Lib.hid (HM2.out.call hb)
          refine ⟨_, rfl, HM3.out.forget.forget, ?_⟩
          clear hb HM2
          change wpAnyH _ _ _ _ _ _ _ (Act.put _ (some 62) _) _
          (try simp only [Act.put, List.setIfInBounds_toArray, List.set_cons_zero, List.set_cons_succ])
          refine wpAnyH_all (rs := [5]) (by kernel_rfl) (by simp) ?_
          intro i hi
          obtain rfl := List.mem_singleton.1 hi
          refine wpOp_of rfl rfl ?_
          refine w_call (f := 15) (args := #[.slice (some ⟨gb, 0, none⟩) 16384 16384, .agg #[.int .u8 (r0 : Int), .int .u8 (r1 : Int), .int .u8 (r2 : Int), .int .u8 (r3 : Int), .int .u8 (r4 : Int), .int .u8 126, .int .u8 0, .int .u8 (r7 : Int), .int .u8 (r8 : Int), .int .u8 (r9 : Int), .int .u8 (r10 : Int)], .int .i64 50]) (fun w => rfl) (by go_simp) ?_
          refine (line_f (some ⟨gb, 0, none⟩) 16384 16384 yb r0 r1 r2 r3 r4 r7 r8 r9 r10 50 H0.out H1.out H50.out H50'.out fb false cb hfb hob hcb _ (HM3.out.byteRow (.s (.s (.s (.s .z)))) HVb.out)).mono ?_
          rintro e w3 ⟨rfl, hb⟩
          have HM4 := Lib.hid (HM3.out.call hb)
          refine ⟨_, rfl, HM4.out.forget.forget, ?_⟩
          clear hb HM3
          change wpAnyH _ _ _ _ _ _ _ (Act.put _ (some 65) _) _
          (try simp only [Act.put, List.setIfInBounds_toArray, List.set_cons_zero, List.set_cons_succ])
          refine wpAnyH_all (rs := [8]) (by kernel_rfl) (by simp) ?_
          intro i hi
          obtain rfl := List.mem_singleton.1 hi
          refine wpOp_of rfl rfl ?_
          refine w_lay HM4 rfl rfl rfl (.s .z) (.s .z) aggRow.size (rcells_length _ _ _) (rcells_length _ _ _) (rcells_one _ _ _) rfl ?_
          intro w4 HM5
          refine ⟨HM5.out.forget.forget, ?_⟩
          clear HM4
          refine wpAnyH_all (rs := [9]) (by kernel_rfl) (by simp) ?_
          intro i hi
          obtain rfl := List.mem_singleton.1 hi
          refine wpOp_of rfl rfl ?_
          refine w_lay HM5 rfl rfl rfl .z .z aggRow.size (rcells_length _ _ _) (rcells_length _ _ _) (rcells_one _ _ _) rfl ?_
          intro w5 HM6
          refine ⟨HM6.out.forget.forget, ?_⟩
          clear HM5
          refine wpAnyH_done (by kernel_rfl) ?_ _
          go_wp2_with fail
          go_meet
          exact ⟨ha, hb_, rfl, rfl, HM6⟩
      · refine wpOp_of rfl rfl ?_
        refine w_alloc HM0 rfl zeroRow ?_
        intro w0 hb_ HM1
        refine ⟨HM1.out.forget, ?_⟩
        clear HM0
        change wpAnyH _ _ _ _ _ _ _ (Act.put _ (some 12) _) _
        (try simp only [Act.put, List.setIfInBounds_toArray, List.set_cons_zero, List.set_cons_succ])
        refine wpAnyH_all (rs := [2, 6]) (by kernel_rfl) (by simp) ?_
        intro i hi
        simp only [List.mem_cons, List.not_mem_nil, or_false] at hi
        rcases hi with rfl | rfl
        · refine wpOp_of rfl rfl ?_
          refine w_call (f := 15) (args := #[.slice (some ⟨ga, 0, none⟩) 16384 16384, .agg #[.int .u8 (r0 : Int), .int .u8 (r1 : Int), .int .u8 (r2 : Int), .int .u8 (r3 : Int), .int .u8 (r4 : Int), .int .u8 126, .int .u8 0, .int .u8 (r7 : Int), .int .u8 (r8 : Int), .int .u8 (r9 : Int), .int .u8 (r10 : Int)], .int .i64 50]) (fun w => rfl) (by go_simp) ?_
          refine (line_f (some ⟨ga, 0, none⟩) 16384 16384 ya r0 r1 r2 r3 r4 r7 r8 r9 r10 50 H0.out H1.out H50.out H50'.out fa oa ca hfa hoa hca _ (HM1.out.byteRow (.s (.s (.s (.s .z)))) HVa.out)).mono ?_
          rintro e w1 ⟨rfl, hb⟩
          have HM2 := Lib.hid (HM1.out.call hb)
          refine ⟨_, rfl, HM2.out.forget, ?_⟩
          clear hb HM1
          change wpAnyH _ _ _ _ _ _ _ (Act.put _ (some 62) _) _
          (try simp only [Act.put, List.setIfInBounds_toArray, List.set_cons_zero, List.set_cons_succ])
          refine wpAnyH_all (rs := [5, 6]) (by kernel_rfl) (by simp) ?_
          intro i hi
          simp only [List.mem_cons, List.not_mem_nil, or_false] at hi
          rcases hi with rfl | rfl
          · refine wpOp_of rfl rfl ?_
            refine w_call (f := 15) (args := #[.slice (some ⟨gb, 0, none⟩) 16384 16384, .agg #[.int .u8 (r0 : Int), .int .u8 (r1 : Int), .int .u8 (r2 : Int), .int .u8 (r3 : Int), .int .u8 (r4 : Int), .int .u8 126, .int .u8 0, .int .u8 (r7 : Int), .int .u8 (r8 : Int), .int .u8 (r9 : Int), .int .u8 (r10 : Int)], .int .i64 50]) (fun w => rfl) (by go_simp) ?_
            refine (line_f (some ⟨gb, 0, none⟩) 16384 16384 yb r0 r1 r2 r3 r4 r7 r8 r9 r10 50 H0.out H1.out H50.out H50'.out fb false cb hfb hob hcb _ (HM2.out.byteRow (.s (.s (.s .z))) HVb.out)).mono ?_
            rintro e w2 ⟨rfl, hb⟩
            have HM3 := Lib.hid (HM2.out.call hb)
            refine ⟨_, rfl, HM3.out.forget, ?_⟩
            clear hb HM2
            change wpAnyH _ _ _ _ _ _ _ (Act.put _ (some 65) _) _
            (try simp only [Act.put, List.setIfInBounds_toArray, List.set_cons_zero, List.set_cons_succ])
            refine wpAnyH_all (rs := [6]) (by kernel_rfl) (by simp) ?_
            intro i hi
            obtain rfl := List.mem_singleton.1 hi
            refine wpOp_of rfl rfl ?_
            refine w_alloc HM3 rfl zeroRow ?_
            intro w3 ha HM4
            refine ⟨HM4.out.forget.forget, ?_⟩
            clear HM3
            change wpAnyH _ _ _ _ _ _ _ (Act.put _ (some 11) _) _
            (try simp only [Act.put, List.setIfInBounds_toArray, List.set_cons_zero, List.set_cons_succ])
            refine wpAnyH_all (rs := [8]) (by kernel_rfl) (by simp) ?_
            intro i hi
            obtain rfl := List.mem_singleton.1 hi
            refine wpOp_of rfl rfl ?_
            refine w_lay HM4 rfl rfl rfl .z .z aggRow.size (rcells_length _ _ _) (rcells_length _ _ _) (rcells_one _ _ _) rfl ?_
            intro w4 HM5
            refine ⟨HM5.out.forget.forget, ?_⟩
            clear HM4
            refine wpAnyH_all (rs := [9]) (by kernel_rfl) (by simp) ?_
            intro i hi
            obtain rfl := List.mem_singleton.1 hi
            refine wpOp_of rfl rfl ?_
            refine w_lay HM5 rfl rfl rfl (.s .z) (.s .z) aggRow.size (rcells_length _ _ _) (rcells_length _ _ _) (rcells_one _ _ _) rfl ?_
            intro w5 HM6
            refine ⟨HM6.out.forget.forget, ?_⟩
            clear HM5
            refine wpAnyH_done (by kernel_rfl) ?_ _
            go_wp2_with fail
            go_meet
            exact ⟨ha, hb_, rfl, rfl, (Lib.hid HM6.out.swap2)⟩
          · refine wpOp_of rfl rfl ?_
            refine w_alloc HM2 rfl zeroRow ?_
            intro w2 ha HM3
            refine ⟨HM3.out.forget.forget, ?_⟩
            clear HM2
            change wpAnyH _ _ _ _ _ _ _ (Act.put _ (some 11) _) _
            (try simp only [Act.put, List.setIfInBounds_toArray, List.set_cons_zero, List.set_cons_succ])
            refine wpAnyH_all (rs := [5]) (by kernel_rfl) (by simp) ?_
            intro i hi
            obtain rfl := List.mem_singleton.1 hi
            refine wpOp_of rfl rfl ?_
            refine w_call (f := 15) (args := #[.slice (some ⟨gb, 0, none⟩) 16384 16384, .agg #[.int .u8 (r0 : Int), .int .u8 (r1 : Int), .int .u8 (r2 : Int), .int .u8 (r3 : Int), .int .u8 (r4 : Int), .int .u8 126, .int .u8 0, .int .u8 (r7 : Int), .int .u8 (r8 : Int), .int .u8 (r9 : Int), .int .u8 (r10 : Int)], .int .i64 50]) (fun w => rfl) (by go_simp) ?_
            refine (line_f (some ⟨gb, 0, none⟩) 16384 16384 yb r0 r1 r2 r3 r4 r7 r8 r9 r10 50 H0.out H1.out H50.out H50'.out fb false cb hfb hob hcb _ (HM3.out.byteRow (.s (.s (.s (.s .z)))) HVb.out)).mono ?_
            rintro e w3 ⟨rfl, hb⟩
            have HM4 := Lib.hid (HM3.out.call hb)
            refine ⟨_, rfl, HM4.out.forget.forget, ?_⟩
            clear hb HM3
            change wpAnyH _ _ _ _ _ _ _ (Act.put _ (some 65) _) _
            (try simp only [Act.put, List.setIfInBounds_toArray, List.set_cons_zero, List.set_cons_succ])
            refine wpAnyH_all (rs := [8]) (by kernel_rfl) (by simp) ?_
            intro i hi
            obtain rfl := List.mem_singleton.1 hi
            refine wpOp_of rfl rfl ?_
            refine w_lay HM4 rfl rfl rfl .z .z aggRow.size (rcells_length _ _ _) (rcells_length _ _ _) (rcells_one _ _ _) rfl ?_
            intro w4 HM5
            refine ⟨HM5.out.forget.forget, ?_⟩
            clear HM4
            refine wpAnyH_all (rs := [9]) (by kernel_rfl) (by simp) ?_
            intro i hi
            obtain rfl := List.mem_singleton.1 hi
            refine wpOp_of rfl rfl ?_
            refine w_lay HM5 rfl rfl rfl (.s .z) (.s .z) aggRow.size (rcells_length _ _ _) (rcells_length _ _ _) (rcells_one _ _ _) rfl ?_
            intro w5 HM6
            refine ⟨HM6.out.forget.forget, ?_⟩
            clear HM5
            refine wpAnyH_done (by kernel_rfl) ?_ _
            go_wp2_with fail
            go_meet
            exact ⟨ha, hb_, rfl, rfl, (Lib.hid HM6.out.swap2)⟩
        · refine wpOp_of rfl rfl ?_
          refine w_alloc HM1 rfl zeroRow ?_
          intro w1 ha HM2
          refine ⟨HM2.out.forget.forget, ?_⟩
          clear HM1
          change wpAnyH _ _ _ _ _ _ _ (Act.put _ (some 11) _) _
          (try simp only [Act.put, List.setIfInBounds_toArray, List.set_cons_zero, List.set_cons_succ])
          refine wpAnyH_all (rs := [2]) (by kernel_rfl) (by simp) ?_
          intro i hi
          obtain rfl := List.mem_singleton.1 hi
          refine wpOp_of rfl rfl ?_
          refine w_call (f := 15) (args := #[.slice (some ⟨ga, 0, none⟩) 16384 16384, .agg #[.int .u8 (r0 : Int), .int .u8 (r1 : Int), .int .u8 (r2 : Int), .int .u8 (r3 : Int), .int .u8 (r4 : Int), .int .u8 126, .int .u8 0, .int .u8 (r7 : Int), .int .u8 (r8 : Int), .int .u8 (r9 : Int), .int .u8 (r10 : Int)], .int .i64 50]) (fun w => rfl) (by go_simp) ?_
          refine (line_f (some ⟨ga, 0, none⟩) 16384 16384 ya r0 r1 r2 r3 r4 r7 r8 r9 r10 50 H0.out H1.out H50.out H50'.out fa oa ca hfa hoa hca _ (HM2.out.byteRow (.s (.s (.s (.s (.s .z))))) HVa.out)).mono ?_
          rintro e w2 ⟨rfl, hb⟩
          have HM3 := Lib.hid (HM2.out.call hb)
          refine ⟨_, rfl, HM3.out.forget.forget, ?_⟩
          clear hb HM2
          change wpAnyH _ _ _ _ _ _ _ (Act.put _ (some 62) _) _
          (try simp only [Act.put, List.setIfInBounds_toArray, List.set_cons_zero, List.set_cons_succ])
          refine wpAnyH_all (rs := [5]) (by kernel_rfl) (by simp) ?_
          intro i hi
          obtain rfl := List.mem_singleton.1 hi
          refine wpOp_of rfl rfl ?_
          refine w_call (f := 15) (args := #[.slice (some ⟨gb, 0, none⟩) 16384 16384, .agg #[.int .u8 (r0 : Int), .int .u8 (r1 : Int), .int .u8 (r2 : Int), .int .u8 (r3 : Int), .int .u8 (r4 : Int), .int .u8 126, .int .u8 0, .int .u8 (r7 : Int), .int .u8 (r8 : Int), .int .u8 (r9 : Int), .int .u8 (r10 : Int)], .int .i64 50]) (fun w => rfl) (by go_simp) ?_
          refine (line_f (some ⟨gb, 0, none⟩) 16384 16384 yb r0 r1 r2 r3 r4 r7 r8 r9 r10 50 H0.out H1.out H50.out H50'.out fb false cb hfb hob hcb _ (HM3.out.byteRow (.s (.s (.s (.s .z)))) HVb.out)).mono ?_
          rintro e w3 ⟨rfl, hb⟩
          have HM4 := Lib.hid (HM3.out.call hb)
          refine ⟨_, rfl, HM4.out.forget.forget, ?_⟩
          clear hb HM3
          change wpAnyH _ _ _ _ _ _ _ (Act.put _ (some 65) _) _
          (try simp only [Act.put, List.setIfInBounds_toArray, List.set_cons_zero, List.set_cons_succ])
          refine wpAnyH_all (rs := [8]) (by kernel_rfl) (by simp) ?_
          intro i hi
          obtain rfl := List.mem_singleton.1 hi
          refine wpOp_of rfl rfl ?_
          refine w_lay HM4 rfl rfl rfl .z .z aggRow.size (rcells_length _ _ _) (rcells_length _ _ _) (rcells_one _ _ _) rfl ?_
          intro w4 HM5
          refine ⟨HM5.out.forget.forget, ?_⟩
          clear HM4
          refine wpAnyH_all (rs := [9]) (by kernel_rfl) (by simp) ?_
          intro i hi
          obtain rfl := List.mem_singleton.1 hi
          refine wpOp_of rfl rfl ?_
          refine w_lay HM5 rfl rfl rfl (.s .z) (.s .z) aggRow.size (rcells_length _ _ _) (rcells_length _ _ _) (rcells_one _ _ _) rfl ?_
          intro w5 HM6
          refine ⟨HM6.out.forget.forget, ?_⟩
          clear HM5
          refine wpAnyH_done (by kernel_rfl) ?_ _
          go_wp2_with fail
          go_meet
          exact ⟨ha, hb_, rfl, rfl, (Lib.hid HM6.out.swap2)⟩
    case' rest =>
      clear HM
      obtain ⟨ha, hb_, rfl, rfl, HM⟩ := hcut
      go_upto_region 12 with fail
      go_cut [13, 14] from 66 to 71 (fun s13 s14 wx => ∃ hc_ hd_, s13 = .pointer (some ⟨hc_, 0, none⟩) ∧ s14 = .pointer (some ⟨hd_, 0, none⟩) ∧ Hid (Own w wx ((hd_, 39, rcells fd false cd) :: (hc_, 39, rcells fc false cc) :: ((hb_, 39, rcells fb false cb) :: (ha, 39, rcells fa oa ca) :: (gd, 5, b8 16384 yd) :: (gc, 5, b8 16384 yc) :: (gb, 5, b8 16384 yb) :: (ga, 5, b8 16384 ya) :: (g3, 36, [.int .u8 (e0 : Int), .int .u8 (e1 : Int), .int .u8 (e2 : Int)]) :: (g2, 26, [.int .u8 (r0 : Int), .int .u8 (r1 : Int), .int .u8 (r2 : Int), .int .u8 (r3 : Int), .int .u8 (r4 : Int), .int .u8 126, .int .u8 0, .int .u8 (r7 : Int), .int .u8 (r8 : Int), .int .u8 (r9 : Int), .int .u8 (r10 : Int)]) :: (g1, 31, [.slice a1 n1 c1, .slice a2 n2 c2]) :: []))))
      case' first =>
        refine wp_region_held (S := fun w' => Own w w' ((hb_, 39, rcells fb false cb) :: (ha, 39, rcells fa oa ca) :: (gd, 5, b8 16384 yd) :: (gc, 5, b8 16384 yc) :: (gb, 5, b8 16384 yb) :: (ga, 5, b8 16384 ya) :: (g3, 36, [.int .u8 (e0 : Int), .int .u8 (e1 : Int), .int .u8 (e2 : Int)]) :: (g2, 26, [.int .u8 (r0 : Int), .int .u8 (r1 : Int), .int .u8 (r2 : Int), .int .u8 (r3 : Int), .int .u8 (r4 : Int), .int .u8 126, .int .u8 0, .int .u8 (r7 : Int), .int .u8 (r8 : Int), .int .u8 (r9 : Int), .int .u8 (r10 : Int)]) :: (g1, 31, [.slice a1 n1 c1, .slice a2 n2 c2]) :: [])) (by kernel_rfl) ?_
        replace HM := Lib.hid HM.out.drew
        change wpAnyH _ _ _ _ _ _ _ _ (World.drew _)
        have HQ := HM.out
        refine h_take (i := 0) (d := 66) (v := .slice (some ⟨gc, 0, none⟩) 16384 16384) rfl rfl (by kernel_rfl) (by kernel_rfl) (by kernel_rfl) (fun _ _ _ h => h) (y_pure rfl (fun w => by go_simp)) HQ ?_
        (try simp only [Act.put, List.setIfInBounds_toArray, List.set_cons_zero, List.set_cons_succ])
        refine h_take (i := 1) (d := 67) (v := .agg #[.int .u8 (r0 : Int), .int .u8 (r1 : Int), .int .u8 (r2 : Int), .int .u8 (r3 : Int), .int .u8 (r4 : Int), .int .u8 126, .int .u8 0, .int .u8 (r7 : Int), .int .u8 (r8 : Int), .int .u8 (r9 : Int), .int .u8 (r10 : Int)]) rfl rfl (by kernel_rfl) (by kernel_rfl) (by kernel_rfl) (fun _ _ _ h => h) (y_row (g := g2) rfl rfl agg11 (.s (.s (.s (.s (.s (.s (.s .z))))))) rfl rfl) HQ ?_
        (try simp only [Act.put, List.setIfInBounds_toArray, List.set_cons_zero, List.set_cons_succ])
        refine h_take (i := 3) (d := 69) (v := .slice (some ⟨gd, 0, none⟩) 16384 16384) rfl rfl (by kernel_rfl) (by kernel_rfl) (by kernel_rfl) (fun _ _ _ h => h) (y_pure rfl (fun w => by go_simp)) HQ ?_
        (try simp only [Act.put, List.setIfInBounds_toArray, List.set_cons_zero, List.set_cons_succ])
        refine h_take (i := 4) (d := 70) (v := .agg #[.int .u8 (r0 : Int), .int .u8 (r1 : Int), .int .u8 (r2 : Int), .int .u8 (r3 : Int), .int .u8 (r4 : Int), .int .u8 126, .int .u8 0, .int .u8 (r7 : Int), .int .u8 (r8 : Int), .int .u8 (r9 : Int), .int .u8 (r10 : Int)]) rfl rfl (by kernel_rfl) (by kernel_rfl) (by kernel_rfl) (fun _ _ _ h => h) (y_row (g := g2) rfl rfl agg11 (.s (.s (.s (.s (.s (.s (.s .z))))))) rfl rfl) HQ ?_
        (try simp only [Act.put, List.setIfInBounds_toArray, List.set_cons_zero, List.set_cons_succ])
        clear HQ
        have HM0 := HM
        clear HM
        refine wpAnyH_all (rs := [2, 6, 7]) (by kernel_rfl) (by simp) ?_
        intro i hi
        simp only [List.mem_cons, List.not_mem_nil, or_false] at hi
        rcases hi with rfl | rfl | rfl
        · refine wpOp_of rfl rfl ?_
          refine w_call (f := 15) (args := #[.slice (some ⟨gc, 0, none⟩) 16384 16384, .agg #[.int .u8 (r0 : Int), .int .u8 (r1 : Int), .int .u8 (r2 : Int), .int .u8 (r3 : Int), .int .u8 (r4 : Int), .int .u8 126, .int .u8 0, .int .u8 (r7 : Int), .int .u8 (r8 : Int), .int .u8 (r9 : Int), .int .u8 (r10 : Int)], .int .i64 50]) (fun w => rfl) (by go_simp) ?_
          refine (line_f (some ⟨gc, 0, none⟩) 16384 16384 yc r0 r1 r2 r3 r4 r7 r8 r9 r10 50 H0.out H1.out H50.out H50'.out fc false cc hfc hoc hcc _ (HM0.out.byteRow (.s (.s (.s .z))) HVc.out)).mono ?_
          rintro e w0 ⟨rfl, hb⟩
          have HM1 := Lib.hid (HM0.out.call hb)
          refine ⟨_, rfl, HM1.out, ?_⟩
          clear hb HM0
          change wpAnyH _ _ _ _ _ _ _ (Act.put _ (some 68) _) _
          (try simp only [Act.put, List.setIfInBounds_toArray, List.set_cons_zero, List.set_cons_succ])
          refine wpAnyH_all (rs := [5, 6, 7]) (by kernel_rfl) (by simp) ?_
          intro i hi
          simp only [List.mem_cons, List.not_mem_nil, or_false] at hi
          rcases hi with rfl | rfl | rfl
          · refine wpOp_of rfl rfl ?_
            refine w_call (f := 15) (args := #[.slice (some ⟨gd, 0, none⟩) 16384 16384, .agg #[.int .u8 (r0 : Int), .int .u8 (r1 : Int), .int .u8 (r2 : Int), .int .u8 (r3 : Int), .int .u8 (r4 : Int), .int .u8 126, .int .u8 0, .int .u8 (r7 : Int), .int .u8 (r8 : Int), .int .u8 (r9 : Int), .int .u8 (r10 : Int)], .int .i64 50]) (fun w => rfl) (by go_simp) ?_
            refine (line_f (some ⟨gd, 0, none⟩) 16384 16384 yd r0 r1 r2 r3 r4 r7 r8 r9 r10 50 H0.out H1.out H50.out H50'.out fd false cd hfd hod hcd _ (HM1.out.byteRow (.s (.s .z)) HVd.out)).mono ?_
            rintro e w1 ⟨rfl, hb⟩
            have HM2 := Lib.hid (HM1.out.call hb)
            refine ⟨_, rfl, HM2.out, ?_⟩
            clear hb HM1
            change wpAnyH _ _ _ _ _ _ _ (Act.put _ (some 71) _) _
            (try simp only [Act.put, List.setIfInBounds_toArray, List.set_cons_zero, List.set_cons_succ])
            refine wpAnyH_all (rs := [6, 7]) (by kernel_rfl) (by simp) ?_
            intro i hi
            simp only [List.mem_cons, List.not_mem_nil, or_false] at hi
            rcases hi with rfl | rfl
            · refine wpOp_of rfl rfl ?_
              refine w_alloc HM2 rfl zeroRow ?_
              intro w2 hc_ HM3
              refine ⟨HM3.out.forget, ?_⟩
              clear HM2
              change wpAnyH _ _ _ _ _ _ _ (Act.put _ (some 13) _) _
              (try simp only [Act.put, List.setIfInBounds_toArray, List.set_cons_zero, List.set_cons_succ])
              refine wpAnyH_all (rs := [7]) (by kernel_rfl) (by simp) ?_
              intro i hi
              obtain rfl := List.mem_singleton.1 hi
              refine wpOp_of rfl rfl ?_
              refine w_alloc HM3 rfl zeroRow ?_
              intro w3 hd_ HM4
              refine ⟨HM4.out.forget.forget, ?_⟩
              clear HM3
              change wpAnyH _ _ _ _ _ _ _ (Act.put _ (some 14) _) _
              (try simp only [Act.put, List.setIfInBounds_toArray, List.set_cons_zero, List.set_cons_succ])
              refine wpAnyH_all (rs := [8]) (by kernel_rfl) (by simp) ?_
              intro i hi
              obtain rfl := List.mem_singleton.1 hi
              refine wpOp_of rfl rfl ?_
              refine w_lay HM4 rfl rfl rfl (.s .z) (.s .z) aggRow.size (rcells_length _ _ _) (rcells_length _ _ _) (rcells_one _ _ _) rfl ?_
              intro w4 HM5
              refine ⟨HM5.out.forget.forget, ?_⟩
              clear HM4
              refine wpAnyH_all (rs := [9]) (by kernel_rfl) (by simp) ?_
              intro i hi
              obtain rfl := List.mem_singleton.1 hi
              refine wpOp_of rfl rfl ?_
              refine w_lay HM5 rfl rfl rfl .z .z aggRow.size (rcells_length _ _ _) (rcells_length _ _ _) (rcells_one _ _ _) rfl ?_
              intro w5 HM6
              refine ⟨HM6.out.forget.forget, ?_⟩
              clear HM5
              refine wpAnyH_done (by kernel_rfl) ?_ _
              go_wp2_with fail
              go_meet
              exact ⟨hc_, hd_, rfl, rfl, HM6⟩
            · refine wpOp_of rfl rfl ?_
              refine w_alloc HM2 rfl zeroRow ?_
              intro w2 hd_ HM3
              refine ⟨HM3.out.forget, ?_⟩
              clear HM2
              change wpAnyH _ _ _ _ _ _ _ (Act.put _ (some 14) _) _
              (try simp only [Act.put, List.setIfInBounds_toArray, List.set_cons_zero, List.set_cons_succ])
              refine wpAnyH_all (rs := [6]) (by kernel_rfl) (by simp) ?_
              intro i hi
              obtain rfl := List.mem_singleton.1 hi
              refine wpOp_of rfl rfl ?_
              refine w_alloc HM3 rfl zeroRow ?_
              intro w3 hc_ HM4
              refine ⟨HM4.out.forget.forget, ?_⟩
              clear HM3
              change wpAnyH _ _ _ _ _ _ _ (Act.put _ (some 13) _) _
              (try simp only [Act.put, List.setIfInBounds_toArray, List.set_cons_zero, List.set_cons_succ])
              refine wpAnyH_all (rs := [8]) (by kernel_rfl) (by simp) ?_
              intro i hi
              obtain rfl := List.mem_singleton.1 hi
              refine wpOp_of rfl rfl ?_
              refine w_lay HM4 rfl rfl rfl .z .z aggRow.size (rcells_length _ _ _) (rcells_length _ _ _) (rcells_one _ _ _) rfl ?_
              intro w4 HM5
              refine ⟨HM5.out.forget.forget, ?_⟩
              clear HM4
              refine wpAnyH_all (rs := [9]) (by kernel_rfl) (by simp) ?_
              intro i hi
              obtain rfl := List.mem_singleton.1 hi
              refine wpOp_of rfl rfl ?_
              refine w_lay HM5 rfl rfl rfl (.s .z) (.s .z) aggRow.size (rcells_length _ _ _) (rcells_length _ _ _) (rcells_one _ _ _) rfl ?_
              intro w5 HM6
              refine ⟨HM6.out.forget.forget, ?_⟩
              clear HM5
              refine wpAnyH_done (by kernel_rfl) ?_ _
              go_wp2_with fail
              go_meet
              exact ⟨hc_, hd_, rfl, rfl, (Lib.hid HM6.out.swap2)⟩
          · refine wpOp_of rfl rfl ?_
            refine w_alloc HM1 rfl zeroRow ?_
            intro w1 hc_ HM2
            refine ⟨HM2.out.forget, ?_⟩
            clear HM1
            change wpAnyH _ _ _ _ _ _ _ (Act.put _ (some 13) _) _
            (try simp only [Act.put, List.setIfInBounds_toArray, List.set_cons_zero, List.set_cons_succ])
            refine wpAnyH_all (rs := [5, 7]) (by kernel_rfl) (by simp) ?_
            intro i hi
            simp only [List.mem_cons, List.not_mem_nil, or_false] at hi
            rcases hi with rfl | rfl
            · refine wpOp_of rfl rfl ?_
              refine w_call (f := 15) (args := #[.slice (some ⟨gd, 0, none⟩) 16384 16384, .agg #[.int .u8 (r0 : Int), .int .u8 (r1 : Int), .int .u8 (r2 : Int), .int .u8 (r3 : Int), .int .u8 (r4 : Int), .int .u8 126, .int .u8 0, .int .u8 (r7 : Int), .int .u8 (r8 : Int), .int .u8 (r9 : Int), .int .u8 (r10 : Int)], .int .i64 50]) (fun w => rfl) (by go_simp) ?_
              refine (line_f (some ⟨gd, 0, none⟩) 16384 16384 yd r0 r1 r2 r3 r4 r7 r8 r9 r10 50 H0.out H1.out H50.out H50'.out fd false cd hfd hod hcd _ (HM2.out.byteRow (.s (.s (.s .z))) HVd.out)).mono ?_
              rintro e w2 ⟨rfl, hb⟩
              have HM3 := Lib.hid (HM2.out.call hb)
              refine ⟨_, rfl, HM3.out.forget, ?_⟩
              clear hb HM2
              change wpAnyH _ _ _ _ _ _ _ (Act.put _ (some 71) _) _
              (try simp only [Act.put, List.setIfInBounds_toArray, List.set_cons_zero, List.set_cons_succ])
              refine wpAnyH_all (rs := [7]) (by kernel_rfl) (by simp) ?_
              intro i hi
              obtain rfl := List.mem_singleton.1 hi
              refine wpOp_of rfl rfl ?_
              refine w_alloc HM3 rfl zeroRow ?_
              intro w3 hd_ HM4
              refine ⟨HM4.out.forget.forget, ?_⟩
              clear HM3
              change wpAnyH _ _ _ _ _ _ _ (Act.put _ (some 14) _) _
              (try simp only [Act.put, List.setIfInBounds_toArray, List.set_cons_zero, List.set_cons_succ])
              refine wpAnyH_all (rs := [8]) (by kernel_rfl) (by simp) ?_
              intro i hi
              obtain rfl := List.mem_singleton.1 hi
              refine wpOp_of rfl rfl ?_
              refine w_lay HM4 rfl rfl rfl (.s .z) (.s .z) aggRow.size (rcells_length _ _ _) (rcells_length _ _ _) (rcells_one _ _ _) rfl ?_
              intro w4 HM5
              refine ⟨HM5.out.forget.forget, ?_⟩
              clear HM4
              refine wpAnyH_all (rs := [9]) (by kernel_rfl) (by simp) ?_
              intro i hi
              obtain rfl := List.mem_singleton.1 hi
              refine wpOp_of rfl rfl ?_
              refine w_lay HM5 rfl rfl rfl .z .z aggRow.size (rcells_length _ _ _) (rcells_length _ _ _) (rcells_one _ _ _) rfl ?_
              intro w5 HM6
              refine ⟨HM6.out.forget.forget, ?_⟩
              clear HM5
              refine wpAnyH_done (by kernel_rfl) ?_ _
              go_wp2_with fail
              go_meet
              exact ⟨hc_, hd_, rfl, rfl, HM6⟩
            · refine wpOp_of rfl rfl ?_
              refine w_alloc HM2 rfl zeroRow ?_
              intro w2 hd_ HM3
              refine ⟨HM3.out.forget.forget, ?_⟩
              clear HM2
              change wpAnyH _ _ _ _ _ _ _ (Act.put _ (some 14) _) _
              (try simp only [Act.put, List.setIfInBounds_toArray, List.set_cons_zero, List.set_cons_succ])
              refine wpAnyH_all (rs := [5]) (by kernel_rfl) (by simp) ?_
              intro i hi
              obtain rfl := List.mem_singleton.1 hi
              refine wpOp_of rfl rfl ?_
              refine w_call (f := 15) (args := #[.slice (some ⟨gd, 0, none⟩) 16384 16384, .agg #[.int .u8 (r0 : Int), .int .u8 (r1 : Int), .int .u8 (r2 : Int), .int .u8 (r3 : Int), .int .u8 (r4 : Int), .int .u8 126, .int .u8 0, .int .u8 (r7 : Int), .int .u8 (r8 : Int), .int .u8 (r9 : Int), .int .u8 (r10 : Int)], .int .i64 50]) (fun w => rfl) (by go_simp) ?_
              refine (line_f (some ⟨gd, 0, none⟩) 16384 16384 yd r0 r1 r2 r3 r4 r7 r8 r9 r10 50 H0.out H1.out H50.out H50'.out fd false cd hfd hod hcd _ (HM3.out.byteRow (.s (.s (.s (.s .z)))) HVd.out)).mono ?_
              rintro e w3 ⟨rfl, hb⟩
              have HM4 := Lib.hid (HM3.out.call hb)
              refine ⟨_, rfl, HM4.out.forget.forget, ?_⟩
              clear hb HM3
              change wpAnyH _ _ _ _ _ _ _ (Act.put _ (some 71) _) _
              (try simp only [Act.put, List.setIfInBounds_toArray, List.set_cons_zero, List.set_cons_succ])
              refine wpAnyH_all (rs := [8]) (by kernel_rfl) (by simp) ?_
              intro i hi
              obtain rfl := List.mem_singleton.1 hi
              refine wpOp_of rfl rfl ?_
              refine w_lay HM4 rfl rfl rfl (.s .z) (.s .z) aggRow.size (rcells_length _ _ _) (rcells_length _ _ _) (rcells_one _ _ _) rfl ?_
              intro w4 HM5
              refine ⟨HM5.out.forget.forget, ?_⟩
              clear HM4
              refine wpAnyH_all (rs := [9]) (by kernel_rfl) (by simp) ?_
              intro i hi
              obtain rfl := List.mem_singleton.1 hi
              refine wpOp_of rfl rfl ?_
              refine w_lay HM5 rfl rfl rfl .z .z aggRow.size (rcells_length _ _ _) (rcells_length _ _ _) (rcells_one _ _ _) rfl ?_
              intro w5 HM6
              refine ⟨HM6.out.forget.forget, ?_⟩
              clear HM5
              refine wpAnyH_done (by kernel_rfl) ?_ _
              go_wp2_with fail
              go_meet
              exact ⟨hc_, hd_, rfl, rfl, HM6⟩
          · refine wpOp_of rfl rfl ?_
            refine w_alloc HM1 rfl zeroRow ?_
            intro w1 hd_ HM2
            refine ⟨HM2.out.forget, ?_⟩
            clear HM1
            change wpAnyH _ _ _ _ _ _ _ (Act.put _ (some 14) _) _
            (try simp only [Act.put, List.setIfInBounds_toArray, List.set_cons_zero, List.set_cons_succ])
            refine wpAnyH_all (rs := [5, 6]) (by kernel_rfl) (by simp) ?_
            intro i hi
            simp only [List.mem_cons, List.not_mem_nil, or_false] at hi
            rcases hi with rfl | rfl
            · refine wpOp_of rfl rfl ?_
              refine w_call (f := 15) (args := #[.slice (some ⟨gd, 0, none⟩) 16384 16384, .agg #[.int .u8 (r0 : Int), .int .u8 (r1 : Int), .int .u8 (r2 : Int), .int .u8 (r3 : Int), .int .u8 (r4 : Int), .int .u8 126, .int .u8 0, .int .u8 (r7 : Int), .int .u8 (r8 : Int), .int .u8 (r9 : Int), .int .u8 (r10 : Int)], .int .i64 50]) (fun w => rfl) (by go_simp) ?_
              refine (line_f (some ⟨gd, 0, none⟩) 16384 16384 yd r0 r1 r2 r3 r4 r7 r8 r9 r10 50 H0.out H1.out H50.out H50'.out fd false cd hfd hod hcd _ (HM2.out.byteRow (.s (.s (.s .z))) HVd.out)).mono ?_
              rintro e w2 ⟨rfl, hb⟩
              have HM3 := Lib.hid (HM2.out.call hb)
              refine ⟨_, rfl, HM3.out.forget, ?_⟩
              clear hb HM2
              change wpAnyH _ _ _ _ _ _ _ (Act.put _ (some 71) _) _
              (try simp only [Act.put, List.setIfInBounds_toArray, List.set_cons_zero, List.set_cons_succ])
              refine wpAnyH_all (rs := [6]) (by kernel_rfl) (by simp) ?_
              intro i hi
              obtain rfl := List.mem_singleton.1 hi
              refine wpOp_of rfl rfl ?_
              refine w_alloc HM3 rfl zeroRow ?_
              intro w3 hc_ HM4
              refine ⟨HM4.out.forget.forget, ?_⟩
              clear HM3
              change wpAnyH _ _ _ _ _ _ _ (Act.put _ (some 13) _) _
              (try simp only [Act.put, List.setIfInBounds_toArray, List.set_cons_zero, List.set_cons_succ])
              refine wpAnyH_all (rs := [8]) (by kernel_rfl) (by simp) ?_
              intro i hi
              obtain rfl := List.mem_singleton.1 hi
              refine wpOp_of rfl rfl ?_
              refine w_lay HM4 rfl rfl rfl .z .z aggRow.size (rcells_length _ _ _) (rcells_length _ _ _) (rcells_one _ _ _) rfl ?_
              intro w4 HM5
              refine ⟨HM5.out.forget.forget, ?_⟩
              clear HM4
              refine wpAnyH_all (rs := [9]) (by kernel_rfl) (by simp) ?_
              intro i hi
              obtain rfl := List.mem_singleton.1 hi
              refine wpOp_of rfl rfl ?_
              refine w_lay HM5 rfl rfl rfl (.s .z) (.s .z) aggRow.size (rcells_length _ _ _) (rcells_length _ _ _) (rcells_one _ _ _) rfl ?_
              intro w5 HM6
              refine ⟨HM6.out.forget.forget, ?_⟩
              clear HM5
              refine wpAnyH_done (by kernel_rfl) ?_ _
              go_wp2_with fail
              go_meet
              exact ⟨hc_, hd_, rfl, rfl, (Lib.hid HM6.out.swap2)⟩
            · refine wpOp_of rfl rfl ?_
              refine w_alloc HM2 rfl zeroRow ?_
              intro w2 hc_ HM3
              refine ⟨HM3.out.forget.forget, ?_⟩
              clear HM2
              change wpAnyH _ _ _ _ _ _ _ (Act.put _ (some 13) _) _
              (try simp only [Act.put, List.setIfInBounds_toArray, List.set_cons_zero, List.set_cons_succ])
              refine wpAnyH_all (rs := [5]) (by kernel_rfl) (by simp) ?_
              intro i hi
              obtain rfl := List.mem_singleton.1 hi
              refine wpOp_of rfl rfl ?_
              refine w_call (f := 15) (args := #[.slice (some ⟨gd, 0, none⟩) 16384 16384, .agg #[.int .u8 (r0 : Int), .int .u8 (r1 : Int), .int .u8 (r2 : Int), .int .u8 (r3 : Int), .int .u8 (r4 : Int), .int .u8 126, .int .u8 0, .int .u8 (r7 : Int), .int .u8 (r8 : Int), .int .u8 (r9 : Int), .int .u8 (r10 : Int)], .int .i64 50]) (fun w => rfl) (by go_simp) ?_
              refine (line_f (some ⟨gd, 0, none⟩) 16384 16384 yd r0 r1 r2 r3 r4 r7 r8 r9 r10 50 H0.out H1.out H50.out H50'.out fd false cd hfd hod hcd _ (HM3.out.byteRow (.s (.s (.s (.s .z)))) HVd.out)).mono ?_
              rintro e w3 ⟨rfl, hb⟩
              have HM4 := Lib.hid (HM3.out.call hb)
              refine ⟨_, rfl, HM4.out.forget.forget, ?_⟩
              clear hb HM3
              change wpAnyH _ _ _ _ _ _ _ (Act.put _ (some 71) _) _
              (try simp only [Act.put, List.setIfInBounds_toArray, List.set_cons_zero, List.set_cons_succ])
              refine wpAnyH_all (rs := [8]) (by kernel_rfl) (by simp) ?_
              intro i hi
              obtain rfl := List.mem_singleton.1 hi
              refine wpOp_of rfl rfl ?_
              refine w_lay HM4 rfl rfl rfl .z .z aggRow.size (rcells_length _ _ _) (rcells_length _ _ _) (rcells_one _ _ _) rfl ?_
              intro w4 HM5
              refine ⟨HM5.out.forget.forget, ?_⟩
              clear HM4
              refine wpAnyH_all (rs := [9]) (by kernel_rfl) (by simp) ?_
              intro i hi
              obtain rfl := List.mem_singleton.1 hi
              refine wpOp_of rfl rfl ?_
              refine w_lay HM5 rfl rfl rfl (.s .z) (.s .z) aggRow.size (rcells_length _ _ _) (rcells_length _ _ _) (rcells_one _ _ _) rfl ?_
              intro w5 HM6
              refine ⟨HM6.out.forget.forget, ?_⟩
              clear HM5
              refine wpAnyH_done (by kernel_rfl) ?_ _
              go_wp2_with fail
              go_meet
              exact ⟨hc_, hd_, rfl, rfl, (Lib.hid HM6.out.swap2)⟩
        · refine wpOp_of rfl rfl ?_
          refine w_alloc HM0 rfl zeroRow ?_
          intro w0 hc_ HM1
          refine ⟨HM1.out.forget, ?_⟩
          clear HM0
          change wpAnyH _ _ _ _ _ _ _ (Act.put _ (some 13) _) _
          (try simp only [Act.put, List.setIfInBounds_toArray, List.set_cons_zero, List.set_cons_succ])
          refine wpAnyH_all (rs := [2, 7]) (by kernel_rfl) (by simp) ?_
          intro i hi
          simp only [List.mem_cons, List.not_mem_nil, or_false] at hi
          rcases hi with rfl | rfl
          · refine wpOp_of rfl rfl ?_
            refine w_call (f := 15) (args := #[.slice (some ⟨gc, 0, none⟩) 16384 16384, .agg #[.int .u8 (r0 : Int), .int .u8 (r1 : Int), .int .u8 (r2 : Int), .int .u8 (r3 : Int), .int .u8 (r4 : Int), .int .u8 126, .int .u8 0, .int .u8 (r7 : Int), .int .u8 (r8 : Int), .int .u8 (r9 : Int), .int .u8 (r10 : Int)], .int .i64 50]) (fun w => rfl) (by go_simp) ?_
            refine (line_f (some ⟨gc, 0, none⟩) 16384 16384 yc r0 r1 r2 r3 r4 r7 r8 r9 r10 50 H0.out H1.out H50.out H50'.out fc false cc hfc hoc hcc _ (HM1.out.byteRow (.s (.s (.s (.s .z)))) HVc.out)).mono ?_
            rintro e w1 ⟨rfl, hb⟩
            have HM2 := Lib.hid (HM1.out.call hb)
            refine ⟨_, rfl, HM2.out.forget, ?_⟩
            clear hb HM1
            change wpAnyH _ _ _ _ _ _ _ (Act.put _ (some 68) _) _
            (try simp only [Act.put, List.setIfInBounds_toArray, List.set_cons_zero, List.set_cons_succ])
            refine wpAnyH_all (rs := [5, 7]) (by kernel_rfl) (by simp) ?_
            intro i hi
            simp only [List.mem_cons, List.not_mem_nil, or_false] at hi
            rcases hi with rfl | rfl
            · refine wpOp_of rfl rfl ?_
              refine w_call (f := 15) (args := #[.slice (some ⟨gd, 0, none⟩) 16384 16384, .agg #[.int .u8 (r0 : Int), .int .u8 (r1 : Int), .int .u8 (r2 : Int), .int .u8 (r3 : Int), .int .u8 (r4 : Int), .int .u8 126, .int .u8 0, .int .u8 (r7 : Int), .int .u8 (r8 : Int), .int .u8 (r9 : Int), .int .u8 (r10 : Int)], .int .i64 50]) (fun w => rfl) (by go_simp) ?_
              refine (line_f (some ⟨gd, 0, none⟩) 16384 16384 yd r0 r1 r2 r3 r4 r7 r8 r9 r10 50 H0.out H1.out H50.out H50'.out fd false cd hfd hod hcd _ (HM2.out.byteRow (.s (.s (.s .z))) HVd.out)).mono ?_
              rintro e w2 ⟨rfl, hb⟩
              have HM3 := Lib.hid (HM2.out.call hb)
              refine ⟨_, rfl, HM3.out.forget, ?_⟩
              clear hb HM2
              change wpAnyH _ _ _ _ _ _ _ (Act.put _ (some 71) _) _
              (try simp only [Act.put, List.setIfInBounds_toArray, List.set_cons_zero, List.set_cons_succ])
              refine wpAnyH_all (rs := [7]) (by kernel_rfl) (by simp) ?_
              intro i hi
              obtain rfl := List.mem_singleton.1 hi
              refine wpOp_of rfl rfl ?_
              refine w_alloc HM3 rfl zeroRow ?_
              intro w3 hd_ HM4
              refine ⟨HM4.out.forget.forget, ?_⟩
              clear HM3
              change wpAnyH _ _ _ _ _ _ _ (Act.put _ (some 14) _) _
              (try simp only [Act.put, List.setIfInBounds_toArray, List.set_cons_zero, List.set_cons_succ])
              refine wpAnyH_all (rs := [8]) (by kernel_rfl) (by simp) ?_
              intro i hi
              obtain rfl := List.mem_singleton.1 hi
              refine wpOp_of rfl rfl ?_
              refine w_lay HM4 rfl rfl rfl (.s .z) (.s .z) aggRow.size (rcells_length _ _ _) (rcells_length _ _ _) (rcells_one _ _ _) rfl ?_
              intro w4 HM5
              refine ⟨HM5.out.forget.forget, ?_⟩
              clear HM4
              refine wpAnyH_all (rs := [9]) (by kernel_rfl) (by simp) ?_
              intro i hi
              obtain rfl := List.mem_singleton.1 hi
              refine wpOp_of rfl rfl ?_
              refine w_lay HM5 rfl rfl rfl .z .z aggRow.size (rcells_length _ _ _) (rcells_length _ _ _) (rcells_one _ _ _) rfl ?_
              intro w5 HM6
              refine ⟨HM6.out.forget.forget, ?_⟩
              clear HM5
              refine wpAnyH_done (by kernel_rfl) ?_ _
              go_wp2_with fail
              go_meet
              exact ⟨hc_, hd_, rfl, rfl, HM6⟩
            · refine wpOp_of rfl rfl ?_
              refine w_alloc HM2 rfl zeroRow ?_
              intro w2 hd_ HM3
              refine ⟨HM3.out.forget.forget, ?_⟩
              clear HM2
              change wpAnyH _ _ _ _ _ _ _ (Act.put _ (some 14) _) _
              (try simp only [Act.put, List.setIfInBounds_toArray, List.set_cons_zero, List.set_cons_succ])
              refine wpAnyH_all (rs := [5]) (by kernel_rfl) (by simp) ?_
              intro i hi
              obtain rfl := List.mem_singleton.1 hi
              refine wpOp_of rfl rfl ?_
              refine w_call (f := 15) (args := #[.slice (some ⟨gd, 0, none⟩) 16384 16384, .agg #[.int .u8 (r0 : Int), .int .u8 (r1 : Int), .int .u8 (r2 : Int), .int .u8 (r3 : Int), .int .u8 (r4 : Int), .int .u8 126, .int .u8 0, .int .u8 (r7 : Int), .int .u8 (r8 : Int), .int .u8 (r9 : Int), .int .u8 (r10 : Int)], .int .i64 50]) (fun w => rfl) (by go_simp) ?_
              refine (line_f (some ⟨gd, 0, none⟩) 16384 16384 yd r0 r1 r2 r3 r4 r7 r8 r9 r10 50 H0.out H1.out H50.out H50'.out fd false cd hfd hod hcd _ (HM3.out.byteRow (.s (.s (.s (.s .z)))) HVd.out)).mono ?_
              rintro e w3 ⟨rfl, hb⟩
              have HM4 := Lib.hid (HM3.out.call hb)
              refine ⟨_, rfl, HM4.out.forget.forget, ?_⟩
              clear hb HM3
              change wpAnyH _ _ _ _ _ _ _ (Act.put _ (some 71) _) _
              (try simp only [Act.put, List.setIfInBounds_toArray, List.set_cons_zero, List.set_cons_succ])
              refine wpAnyH_all (rs := [8]) (by kernel_rfl) (by simp) ?_
              intro i hi
              obtain rfl := List.mem_singleton.1 hi
              refine wpOp_of rfl rfl ?_
              refine w_lay HM4 rfl rfl rfl (.s .z) (.s .z) aggRow.size (rcells_length _ _ _) (rcells_length _ _ _) (rcells_one _ _ _) rfl ?_
              intro w4 HM5
              refine ⟨HM5.out.forget.forget, ?_⟩
              clear HM4
              refine wpAnyH_all (rs := [9]) (by kernel_rfl) (by simp) ?_
              intro i hi
              obtain rfl := List.mem_singleton.1 hi
              refine wpOp_of rfl rfl ?_
              refine w_lay HM5 rfl rfl rfl .z .z aggRow.size (rcells_length _ _ _) (rcells_length _ _ _) (rcells_one _ _ _) rfl ?_
              intro w5 HM6
              refine ⟨HM6.out.forget.forget, ?_⟩
              clear HM5
              refine wpAnyH_done (by kernel_rfl) ?_ _
              go_wp2_with fail
              go_meet
              exact ⟨hc_, hd_, rfl, rfl, HM6⟩
          · refine wpOp_of rfl rfl ?_
            refine w_alloc HM1 rfl zeroRow ?_
            intro w1 hd_ HM2
            refine ⟨HM2.out.forget.forget, ?_⟩
            clear HM1
            change wpAnyH _ _ _ _ _ _ _ (Act.put _ (some 14) _) _
            (try simp only [Act.put, List.setIfInBounds_toArray, List.set_cons_zero, List.set_cons_succ])
            refine wpAnyH_all (rs := [2]) (by kernel_rfl) (by simp) ?_
            intro i hi
            obtain rfl := List.mem_singleton.1 hi
            refine wpOp_of rfl rfl ?_
            refine w_call (f := 15) (args := #[.slice (some ⟨gc, 0, none⟩) 16384 16384, .agg #[.int .u8 (r0 : Int), .int .u8 (r1 : Int), .int .u8 (r2 : Int), .int .u8 (r3 : Int), .int .u8 (r4 : Int), .int .u8 126, .int .u8 0, .int .u8 (r7 : Int), .int .u8 (r8 : Int), .int .u8 (r9 : Int), .int .u8 (r10 : Int)], .int .i64 50]) (fun w => rfl) (by go_simp) ?_
            refine (line_f (some ⟨gc, 0, none⟩) 16384 16384 yc r0 r1 r2 r3 r4 r7 r8 r9 r10 50 H0.out H1.out H50.out H50'.out fc false cc hfc hoc hcc _ (HM2.out.byteRow (.s (.s (.s (.s (.s .z))))) HVc.out)).mono ?_
            rintro e w2 ⟨rfl, hb⟩
            have HM3 := Lib.hid (HM2.out.call hb)
            refine ⟨_, rfl, HM3.out.forget.forget, ?_⟩
            clear hb HM2
            change wpAnyH _ _ _ _ _ _ _ (Act.put _ (some 68) _) _
            (try simp only [Act.put, List.setIfInBounds_toArray, List.set_cons_zero, List.set_cons_succ])
            refine wpAnyH_all (rs := [5]) (by kernel_rfl) (by simp) ?_
            intro i hi
            obtain rfl := List.mem_singleton.1 hi
            refine wpOp_of rfl rfl ?_
            refine w_call (f := 15) (args := #[.slice (some ⟨gd, 0, none⟩) 16384 16384, .agg #[.int .u8 (r0 : Int), .int .u8 (r1 : Int), .int .u8 (r2 : Int), .int .u8 (r3 : Int), .int .u8 (r4 : Int), .int .u8 126, .int .u8 0, .int .u8 (r7 : Int), .int .u8 (r8 : Int), .int .u8 (r9 : Int), .int .u8 (r10 : Int)], .int .i64 50]) (fun w => rfl) (by go_simp) ?_
            refine (line_f (some ⟨gd, 0, none⟩) 16384 16384 yd r0 r1 r2 r3 r4 r7 r8 r9 r10 50 H0.out H1.out H50.out H50'.out fd false cd hfd hod hcd _ (HM3.out.byteRow (.s (.s (.s (.s .z)))) HVd.out)).mono ?_
            rintro e w3 ⟨rfl, hb⟩
            have HM4 := Lib.hid (HM3.out.call hb)
            refine ⟨_, rfl, HM4.out.forget.forget, ?_⟩
            clear hb HM3
            change wpAnyH _ _ _ _ _ _ _ (Act.put _ (some 71) _) _
            (try simp only [Act.put, List.setIfInBounds_toArray, List.set_cons_zero, List.set_cons_succ])
            refine wpAnyH_all (rs := [8]) (by kernel_rfl) (by simp) ?_
            intro i hi
            obtain rfl := List.mem_singleton.1 hi
            refine wpOp_of rfl rfl ?_
            refine w_lay HM4 rfl rfl rfl (.s .z) (.s .z) aggRow.size (rcells_length _ _ _) (rcells_length _ _ _) (rcells_one _ _ _) rfl ?_
            intro w4 HM5
            refine ⟨HM5.out.forget.forget, ?_⟩
            clear HM4
            refine wpAnyH_all (rs := [9]) (by kernel_rfl) (by simp) ?_
            intro i hi
            obtain rfl := List.mem_singleton.1 hi
            refine wpOp_of rfl rfl ?_
            refine w_lay HM5 rfl rfl rfl .z .z aggRow.size (rcells_length _ _ _) (rcells_length _ _ _) (rcells_one _ _ _) rfl ?_
            intro w5 HM6
            refine ⟨HM6.out.forget.forget, ?_⟩
            clear HM5
            refine wpAnyH_done (by kernel_rfl) ?_ _
            go_wp2_with fail
            go_meet
            exact ⟨hc_, hd_, rfl, rfl, HM6⟩
        · refine wpOp_of rfl rfl ?_
          refine w_alloc HM0 rfl zeroRow ?_
          intro w0 hd_ HM1
          refine ⟨HM1.out.forget, ?_⟩
          clear HM0
          change wpAnyH _ _ _ _ _ _ _ (Act.put _ (some 14) _) _
          (try simp only [Act.put, List.setIfInBounds_toArray, List.set_cons_zero, List.set_cons_succ])
          refine wpAnyH_all (rs := [2, 6]) (by kernel_rfl) (by simp) ?_
          intro i hi
          simp only [List.mem_cons, List.not_mem_nil, or_false] at hi
          rcases hi with rfl | rfl
          · refine wpOp_of rfl rfl ?_
            refine w_call (f := 15) (args := #[.slice (some ⟨gc, 0, none⟩) 16384 16384, .agg #[.int .u8 (r0 : Int), .int .u8 (r1 : Int), .int .u8 (r2 : Int), .int .u8 (r3 : Int), .int .u8 (r4 : Int), .int .u8 126, .int .u8 0, .int .u8 (r7 : Int), .int .u8 (r8 : Int), .int .u8 (r9 : Int), .int .u8 (r10 : Int)], .int .i64 50]) (fun w => rfl) (by go_simp) ?_
            refine (line_f (some ⟨gc, 0, none⟩) 16384 16384 yc r0 r1 r2 r3 r4 r7 r8 r9 r10 50 H0.out H1.out H50.out H50'.out fc false cc hfc hoc hcc _ (HM1.out.byteRow (.s (.s (.s (.s .z)))) HVc.out)).mono ?_
            rintro e w1 ⟨rfl, hb⟩
            have HM2 := Lib.hid (HM1.out.call hb)
            refine ⟨_, rfl, HM2.out.forget, ?_⟩
            clear hb HM1
            change wpAnyH _ _ _ _ _ _ _ (Act.put _ (some 68) _) _
            (try simp only [Act.put, List.setIfInBounds_toArray, List.set_cons_zero, List.set_cons_succ])
            refine wpAnyH_all (rs := [5, 6]) (by kernel_rfl) (by simp) ?_
            intro i hi
            simp only [List.mem_cons, List.not_mem_nil, or_false] at hi
            rcases hi with rfl | rfl
            · refine wpOp_of rfl rfl ?_
              refine w_call (f := 15) (args := #[.slice (some ⟨gd, 0, none⟩) 16384 16384, .agg #[.int .u8 (r0 : Int), .int .u8 (r1 : Int), .int .u8 (r2 : Int), .int .u8 (r3 : Int), .int .u8 (r4 : Int), .int .u8 126, .int .u8 0, .int .u8 (r7 : Int), .int .u8 (r8 : Int), .int .u8 (r9 : Int), .int .u8 (r10 : Int)], .int .i64 50]) (fun w => rfl) (by go_simp) ?_
              refine (line_f (some ⟨gd, 0, none⟩) 16384 16384 yd r0 r1 r2 r3 r4 r7 r8 r9 r10 50 H0.out H1.out H50.out H50'.out fd false cd hfd hod hcd _ (HM2.out.byteRow (.s (.s (.s .z))) HVd.out)).mono ?_
              rintro e w2 ⟨rfl, hb⟩
              have HM3 := Lib.hid (HM2.out.call hb)
              refine ⟨_, rfl, HM3.out.forget, ?_⟩
              clear hb HM2
              change wpAnyH _ _ _ _ _ _ _ (Act.put _ (some 71) _) _
              (try simp only [Act.put, List.setIfInBounds_toArray, List.set_cons_zero, List.set_cons_succ])
              refine wpAnyH_all (rs := [6]) (by kernel_rfl) (by simp) ?_
              intro i hi
              obtain rfl := List.mem_singleton.1 hi
              refine wpOp_of rfl rfl ?_
              refine w_alloc HM3 rfl zeroRow ?_
              intro w3 hc_ HM4
              refine ⟨HM4.out.forget.forget, ?_⟩
              clear HM3
              change wpAnyH _ _ _ _ _ _ _ (Act.put _ (some 13) _) _
              (try simp only [Act.put, List.setIfInBounds_toArray, List.set_cons_zero, List.set_cons_succ])
              refine wpAnyH_all (rs := [8]) (by kernel_rfl) (by simp) ?_
              intro i hi
              obtain rfl := List.mem_singleton.1 hi
              refine wpOp_of rfl rfl ?_
              refine w_lay HM4 rfl rfl rfl .z .z aggRow.size (rcells_length _ _ _) (rcells_length _ _ _) (rcells_one _ _ _) rfl ?_
              intro w4 HM5
              refine ⟨HM5.out.forget.forget, ?_⟩
              clear HM4
              refine wpAnyH_all (rs := [9]) (by kernel_rfl) (by simp) ?_
              intro i hi
              obtain rfl := List.mem_singleton.1 hi
              refine wpOp_of rfl rfl ?_
              refine w_lay HM5 rfl rfl rfl (.s .z) (.s .z) aggRow.size (rcells_length _ _ _) (rcells_length _ _ _) (rcells_one _ _ _) rfl ?_
              intro w5 HM6
              refine ⟨HM6.out.forget.forget, ?_⟩
              clear HM5
              refine wpAnyH_done (by kernel_rfl) ?_ _
              go_wp2_with fail
              go_meet
              exact ⟨hc_, hd_, rfl, rfl, (Lib.hid HM6.out.swap2)⟩
            · refine wpOp_of rfl rfl ?_
              refine w_alloc HM2 rfl zeroRow ?_
              intro w2 hc_ HM3
              refine ⟨HM3.out.forget.forget, ?_⟩
              clear HM2
              change wpAnyH _ _ _ _ _ _ _ (Act.put _ (some 13) _) _
              (try simp only [Act.put, List.setIfInBounds_toArray, List.set_cons_zero, List.set_cons_succ])
              refine wpAnyH_all (rs := [5]) (by kernel_rfl) (by simp) ?_
              intro i hi
              obtain rfl := List.mem_singleton.1 hi
              refine wpOp_of rfl rfl ?_
              refine w_call (f := 15) (args := #[.slice (some ⟨gd, 0, none⟩) 16384 16384, .agg #[.int .u8 (r0 : Int), .int .u8 (r1 : Int), .int .u8 (r2 : Int), .int .u8 (r3 : Int), .int .u8 (r4 : Int), .int .u8 126, .int .u8 0, .int .u8 (r7 : Int), .int .u8 (r8 : Int), .int .u8 (r9 : Int), .int .u8 (r10 : Int)], .int .i64 50]) (fun w => rfl) (by go_simp) ?_
              refine (line_f (some ⟨gd, 0, none⟩) 16384 16384 yd r0 r1 r2 r3 r4 r7 r8 r9 r10 50 H0.out H1.out H50.out H50'.out fd false cd hfd hod hcd _ (HM3.out.byteRow (.s (.s (.s (.s .z)))) HVd.out)).mono ?_
              rintro e w3 ⟨rfl, hb⟩
              have HM4 := Lib.hid (HM3.out.call hb)
              refine ⟨_, rfl, HM4.out.forget.forget, ?_⟩
              clear hb HM3
              change wpAnyH _ _ _ _ _ _ _ (Act.put _ (some 71) _) _
              (try simp only [Act.put, List.setIfInBounds_toArray, List.set_cons_zero, List.set_cons_succ])
              refine wpAnyH_all (rs := [8]) (by kernel_rfl) (by simp) ?_
              intro i hi
              obtain rfl := List.mem_singleton.1 hi
              refine wpOp_of rfl rfl ?_
              refine w_lay HM4 rfl rfl rfl .z .z aggRow.size (rcells_length _ _ _) (rcells_length _ _ _) (rcells_one _ _ _) rfl ?_
              intro w4 HM5
              refine ⟨HM5.out.forget.forget, ?_⟩
              clear HM4
              refine wpAnyH_all (rs := [9]) (by kernel_rfl) (by simp) ?_
              intro i hi
              obtain rfl := List.mem_singleton.1 hi
              refine wpOp_of rfl rfl ?_
              refine w_lay HM5 rfl rfl rfl (.s .z) (.s .z) aggRow.size (rcells_length _ _ _) (rcells_length _ _ _) (rcells_one _ _ _) rfl ?_
              intro w5 HM6
              refine ⟨HM6.out.forget.forget, ?_⟩
              clear HM5
              refine wpAnyH_done (by kernel_rfl) ?_ _
              go_wp2_with fail
              go_meet
              exact ⟨hc_, hd_, rfl, rfl, (Lib.hid HM6.out.swap2)⟩
          · refine wpOp_of rfl rfl ?_
            refine w_alloc HM1 rfl zeroRow ?_
            intro w1 hc_ HM2
            refine ⟨HM2.out.forget.forget, ?_⟩
            clear HM1
            change wpAnyH _ _ _ _ _ _ _ (Act.put _ (some 13) _) _
            (try simp only [Act.put, List.setIfInBounds_toArray, List.set_cons_zero, List.set_cons_succ])
            refine wpAnyH_all (rs := [2]) (by kernel_rfl) (by simp) ?_
            intro i hi
            obtain rfl := List.mem_singleton.1 hi
            refine wpOp_of rfl rfl ?_
            refine w_call (f := 15) (args := #[.slice (some ⟨gc, 0, none⟩) 16384 16384, .agg #[.int .u8 (r0 : Int), .int .u8 (r1 : Int), .int .u8 (r2 : Int), .int .u8 (r3 : Int), .int .u8 (r4 : Int), .int .u8 126, .int .u8 0, .int .u8 (r7 : Int), .int .u8 (r8 : Int), .int .u8 (r9 : Int), .int .u8 (r10 : Int)], .int .i64 50]) (fun w => rfl) (by go_simp) ?_
            refine (line_f (some ⟨gc, 0, none⟩) 16384 16384 yc r0 r1 r2 r3 r4 r7 r8 r9 r10 50 H0.out H1.out H50.out H50'.out fc false cc hfc hoc hcc _ (HM2.out.byteRow (.s (.s (.s (.s (.s .z))))) HVc.out)).mono ?_
            rintro e w2 ⟨rfl, hb⟩
            have HM3 := Lib.hid (HM2.out.call hb)
            refine ⟨_, rfl, HM3.out.forget.forget, ?_⟩
            clear hb HM2
            change wpAnyH _ _ _ _ _ _ _ (Act.put _ (some 68) _) _
            (try simp only [Act.put, List.setIfInBounds_toArray, List.set_cons_zero, List.set_cons_succ])
            refine wpAnyH_all (rs := [5]) (by kernel_rfl) (by simp) ?_
            intro i hi
            obtain rfl := List.mem_singleton.1 hi
            refine wpOp_of rfl rfl ?_
            refine w_call (f := 15) (args := #[.slice (some ⟨gd, 0, none⟩) 16384 16384, .agg #[.int .u8 (r0 : Int), .int .u8 (r1 : Int), .int .u8 (r2 : Int), .int .u8 (r3 : Int), .int .u8 (r4 : Int), .int .u8 126, .int .u8 0, .int .u8 (r7 : Int), .int .u8 (r8 : Int), .int .u8 (r9 : Int), .int .u8 (r10 : Int)], .int .i64 50]) (fun w => rfl) (by go_simp) ?_
            refine (line_f (some ⟨gd, 0, none⟩) 16384 16384 yd r0 r1 r2 r3 r4 r7 r8 r9 r10 50 H0.out H1.out H50.out H50'.out fd false cd hfd hod hcd _ (HM3.out.byteRow (.s (.s (.s (.s .z)))) HVd.out)).mono ?_
            rintro e w3 ⟨rfl, hb⟩
            have HM4 := Lib.hid (HM3.out.call hb)
            refine ⟨_, rfl, HM4.out.forget.forget, ?_⟩
            clear hb HM3
            change wpAnyH _ _ _ _ _ _ _ (Act.put _ (some 71) _) _
            (try simp only [Act.put, List.setIfInBounds_toArray, List.set_cons_zero, List.set_cons_succ])
            refine wpAnyH_all (rs := [8]) (by kernel_rfl) (by simp) ?_
            intro i hi
            obtain rfl := List.mem_singleton.1 hi
            refine wpOp_of rfl rfl ?_
            refine w_lay HM4 rfl rfl rfl .z .z aggRow.size (rcells_length _ _ _) (rcells_length _ _ _) (rcells_one _ _ _) rfl ?_
            intro w4 HM5
            refine ⟨HM5.out.forget.forget, ?_⟩
            clear HM4
            refine wpAnyH_all (rs := [9]) (by kernel_rfl) (by simp) ?_
            intro i hi
            obtain rfl := List.mem_singleton.1 hi
            refine wpOp_of rfl rfl ?_
            refine w_lay HM5 rfl rfl rfl (.s .z) (.s .z) aggRow.size (rcells_length _ _ _) (rcells_length _ _ _) (rcells_one _ _ _) rfl ?_
            intro w5 HM6
            refine ⟨HM6.out.forget.forget, ?_⟩
            clear HM5
            refine wpAnyH_done (by kernel_rfl) ?_ _
            go_wp2_with fail
            go_meet
            exact ⟨hc_, hd_, rfl, rfl, (Lib.hid HM6.out.swap2)⟩
      case' rest =>
        clear HM
        obtain ⟨hc_, hd_, rfl, rfl, HM⟩ := hcut
        go_upto_region 14 with fail
        go_loopw [15] (fun i wr => ∃ k : Nat, k ≤ 256 ∧ i = .int .i64 (k : Int) ∧ Hid (Own w wr ((hd_, 39, rcells fd false cd) :: (hc_, 39, rcells fc false cc) :: ((hb_, 39, rcells fb false cb) :: (ha, 39, rcells fa oa ca) :: (gd, 5, b8 16384 yd) :: (gc, 5, b8 16384 yc) :: (gb, 5, b8 16384 yb) :: (ga, 5, b8 16384 ya) :: (g3, 36, [.int .u8 (e0 : Int), .int .u8 (e1 : Int), .int .u8 (e2 : Int)]) :: (g2, 26, [.int .u8 (r0 : Int), .int .u8 (r1 : Int), .int .u8 (r2 : Int), .int .u8 (r3 : Int), .int .u8 (r4 : Int), .int .u8 126, .int .u8 0, .int .u8 (r7 : Int), .int .u8 (r8 : Int), .int .u8 (r9 : Int), .int .u8 (r10 : Int)]) :: (g1, 31, [.slice a1 n1 c1, .slice a2 n2 c2]) :: [])))) (fun i _ => 256 - (intOf i).toNat)
        case atStart => exact ⟨0, by omega, rfl, HM⟩
        case round =>
          clear HM
          obtain ⟨k, hk, rfl, HM⟩ := hrel
          by_cases hlt : k < 256
          · have hlt' : (k : Int) < 256 := by omega
            obtain ⟨va, hva⟩ : ∃ v, Hid (fa k = v) := ⟨_, rfl⟩
            obtain ⟨vd, hvd⟩ : ∃ v, Hid (fd k = v) := ⟨_, rfl⟩
            have G0 : Hid ((rcells fa oa ca)[k]? = some (.int .u8 (va : Int))) := Lib.hid (by rw [rcells_color _ _ _ k hlt, hva.out])
            have G1 : Hid ((rcells fd false cd)[k]? = some (.int .u8 (vd : Int))) := Lib.hid (by rw [rcells_color _ _ _ k hlt, hvd.out])
            by_cases ea : va = 0
            all_goals by_cases ed : vd = 0
            all_goals
              first
                | subst ea
                | (have G2 : Hid ((rcells fb false cb)[k]? = some (.int .u8 (va : Int))) := Lib.hid (by rw [rcells_color _ _ _ k hlt, AB.out k (by rw [hva.out]; exact ea), hva.out])
                   have A1 : ((va : Int) != 0) = true := by simp; omega
                   have A2 : ((va : Int) == 0) = false := by simp; omega
                   have A3 : ¬ (va : Int) = 0 := by omega
                   clear ea)
              first
                | subst ed
                | (have G3 : Hid ((rcells fc false cc)[k]? = some (.int .u8 (vd : Int))) := Lib.hid (by rw [rcells_color _ _ _ k hlt, CD.out k (by rw [hvd.out]; exact ed), hvd.out])
                   have D1 : ((vd : Int) != 0) = true := by simp; omega
                   have D2 : ((vd : Int) == 0) = false := by simp; omega
                   have D3 : ¬ (vd : Int) = 0 := by omega
                   clear ed)
              clear hlt hk
              go_upto_region 16 with fail
              (refine own_region HM (by kernel_rfl) (by kernel_rfl) ?_; (try simp only [Act.put, List.setIfInBounds_toArray, List.set_cons_zero, List.set_cons_succ]); repeat ((fail_if_success (with_reducible refine wpQuiet_nil ?_)); first | go_big_quiet_skip | (go_big_quiet_want; first | ((with_reducible apply quiet_get); exact rfl; (first | (with_reducible exact oneU8) | (with_reducible exact oneU16) | (with_reducible exact oneBool)); (first | with_reducible exact .z | with_reducible exact .s .z | with_reducible exact .s (.s .z) | with_reducible exact .s (.s (.s .z)) | with_reducible exact .s (.s (.s (.s .z))) | with_reducible exact .s (.s (.s (.s (.s .z)))) | with_reducible exact .s (.s (.s (.s (.s (.s .z))))) | with_reducible exact HSA.out | with_reducible exact HSB.out | with_reducible exact HSC.out | with_reducible exact HSD.out); (first | exact G0.out | exact G2.out); go_big_quiet_op; go_big_quiet_on) | (go_big_quiet_op; go_big_quiet_on) | (go_big_quiet_op; go_big_quiet_on) | (go_big_quiet_op; refine ⟨_, fun _ _ => rfl, ?_⟩; go_big_quiet_on))))
              refine wpQuiet_nil ?_
              intro w' HM'
              clear HM; have HM := HM'; clear HM'
              go_upto_region 18 with fail
              (refine own_region HM (by kernel_rfl) (by kernel_rfl) ?_; (try simp only [Act.put, List.setIfInBounds_toArray, List.set_cons_zero, List.set_cons_succ]); repeat ((fail_if_success (with_reducible refine wpQuiet_nil ?_)); first | go_big_quiet_skip | (go_big_quiet_want; first | ((with_reducible apply quiet_get); exact rfl; (first | (with_reducible exact oneU8) | (with_reducible exact oneU16) | (with_reducible exact oneBool)); (first | with_reducible exact .z | with_reducible exact .s .z | with_reducible exact .s (.s .z) | with_reducible exact .s (.s (.s .z)) | with_reducible exact .s (.s (.s (.s .z))) | with_reducible exact .s (.s (.s (.s (.s .z)))) | with_reducible exact .s (.s (.s (.s (.s (.s .z))))) | with_reducible exact HSA.out | with_reducible exact HSB.out | with_reducible exact HSC.out | with_reducible exact HSD.out); (first | exact G1.out | exact G3.out); go_big_quiet_op; go_big_quiet_on) | (go_big_quiet_op; go_big_quiet_on) | (go_big_quiet_op; go_big_quiet_on) | (go_big_quiet_op; refine ⟨_, fun _ _ => rfl, ?_⟩; go_big_quiet_on))))
              refine wpQuiet_nil ?_
              intro w' HM'
              clear HM; have HM := HM'; clear HM'
              go_wp2_with fail
              go_roundw
              case rel => exact ⟨k + 1, by omega, by go_num, HM⟩
              case measure => simp [intOf]; omega
          · obtain rfl : k = 256 := by omega
            clear hlt hk
            have G0 : Hid ((rcells fb false cb)[256]? = some (.bool false)) := Lib.hid (rcells_over _ _ _)
            have G1 : Hid ((rcells fc false cc)[256]? = some (.bool false)) := Lib.hid (rcells_over _ _ _)
            have G2 : Hid ((rcells fd false cd)[256]? = some (.bool false)) := Lib.hid (rcells_over _ _ _)
            go_upto_region 20 with fail
            (refine own_inorder HM ?_; (try simp only [Act.put, List.setIfInBounds_toArray, List.set_cons_zero, List.set_cons_succ]); repeat ((fail_if_success (with_reducible refine wpQuiet_nil ?_)); first | go_big_quiet_skip | (go_big_quiet_want; first | ((with_reducible apply quiet_get); exact rfl; (first | (with_reducible exact oneU8) | (with_reducible exact oneU16) | (with_reducible exact oneBool)); (first | with_reducible exact .z | with_reducible exact .s .z | with_reducible exact .s (.s .z) | with_reducible exact .s (.s (.s .z)) | with_reducible exact .s (.s (.s (.s .z))) | with_reducible exact .s (.s (.s (.s (.s .z)))) | with_reducible exact .s (.s (.s (.s (.s (.s .z))))) | with_reducible exact HSA.out | with_reducible exact HSB.out | with_reducible exact HSC.out | with_reducible exact HSD.out); (first | exact G0.out | exact G1.out | exact G2.out); go_big_quiet_op; go_big_quiet_on) | (go_big_quiet_op; go_big_quiet_on) | (go_big_quiet_op; go_big_quiet_on) | (go_big_quiet_op; refine ⟨_, fun _ _ => rfl, ?_⟩; go_big_quiet_on))))
            refine wpQuiet_nil ?_
            intro w' HM'
            clear HM; have HM := HM'; clear HM'
            go_wp2_with fail
            go_ret
            exact ⟨rfl, Own.fin HM⟩
theorem first_any (a1 a2 : Option Addr) (n1 c1 n2 c2 : Nat) (sp : Nat → Nat → Nat) (tl : Nat → Nat) (r0 r1 r2 r3 r4 r5 r6 r7 r8 r9 r10 e0 e1 e2 : Nat) (b0 : r0 < 256) (b1 : r1 < 256) (be0 : e0 < 256) (be1 : e1 < 256) (be2 : e2 < 256) (w : World) (h1 : TriRow w a1 n1 sp) (h2 : ByteRow w a2 n2 tl) (hnil : a1 = none → n1 = 0 ∧ c1 = 0) :
    Calls Try.prog 6 #[.agg #[.slice a1 n1 c1, .slice a2 n2 c2], regsV r0 r1 r2 r3 r4 r5 r6 r7 r8 r9 r10, .agg #[.int .u8 (e0 : Int), .int .u8 (e1 : Int), .int .u8 (e2 : Int)]] w fun e w' => e = .returned (.bool true) ∧ Below w.heap.size w w' := by
  by_cases l1 : n1 ≤ 64
  · by_cases l2 : n2 ≤ 300
    · by_cases l3 : n1 ≤ 6
      · exact first_in a1 a2 n1 c1 n2 c2 sp tl r0 r1 r2 r3 r4 r5 r6 r7 r8 r9 r10 e0 e1 e2 b0 b1 be0 be1 be2 w h1 h2 hnil l3 l2
      · exact first_o2 a1 a2 n1 c1 n2 c2 r0 r1 r2 r3 r4 r5 r6 r7 r8 r9 r10 e0 e1 e2 w l1 l2 (by omega)
    · exact first_o1 a1 a2 n1 c1 n2 c2 r0 r1 r2 r3 r4 r5 r6 r7 r8 r9 r10 e0 e1 e2 w l1 (by omega)
  · exact first_o0 a1 a2 n1 c1 n2 c2 r0 r1 r2 r3 r4 r5 r6 r7 r8 r9 r10 e0 e1 e2 w (by omega)

end Go.Proofs.Ytcefgcoibppdaaa
