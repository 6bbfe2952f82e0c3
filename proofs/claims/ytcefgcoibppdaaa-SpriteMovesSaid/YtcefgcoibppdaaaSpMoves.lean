/-
  The law SpriteMoves returns true.
-/
import Derived.Test.YtcefgcoibppdaaaSpMoves1
import Derived.Test.YtcefgcoibppdaaaSpEnds
namespace Go.Proofs.Ytcefgcoibppdaaa
open Go.RowKit

set_option maxRecDepth 100000 in
set_option maxHeartbeats 12800000 in
theorem moves_in (a1 a2 : Option Addr) (n1 c1 n2 c2 : Nat) (sp : Nat → Nat → Nat) (tl : Nat → Nat) (r0 r1 r2 r3 r4 r5 r6 r7 r8 r9 r10 by_ : Nat) (b1 : r1 < 256) (bb : by_ < 256) (w : World) (h1 : TriRow w a1 n1 sp) (h2 : ByteRow w a2 n2 tl) (l3 : n1 ≤ 30) (l2 : n2 ≤ 300) :
    Calls Try.prog 5 #[.agg #[.slice a1 n1 c1, .slice a2 n2 c2], regsV r0 r1 r2 r3 r4 r5 r6 r7 r8 r9 r10, .int .u8 (by_ : Int)] w fun e w' => e = .returned (.bool true) ∧ Below w.heap.size w w' := by
  have HM := Lib.hid (Own.start w)
  have tg1 : Hid True := trivial
  have tg2 : Hid True := trivial
  have tg3 : Hid True := trivial
  have l1 : n1 ≤ 64 := by omega
  have L1 := Lib.hid l1
  have L2 := Lib.hid l2
  have L3 := Lib.hid l3
  have HT1 := Lib.hid h1
  have HT2 := Lib.hid h2
  have H1 := Lib.hid b1
  have HSP := Lib.hid (sp_lt h1)
  have HTL := Lib.hid (tl_lt h2)
  have tg4 : Hid True := trivial
  have K3 : ((30 : Int) < (n1 : Int)) = False := by rw [eq_iff_iff, iff_false]; omega
  have H40 : Hid ((0 : Int) ≤ 40) := Lib.hid (by decide)
  have H40' : Hid ((40 : Int) ≤ 191) := Lib.hid (by decide)
  obtain ⟨nb, hnb⟩ : ∃ n, by_ % 60 = n := ⟨_, rfl⟩
  have HNB : Hid (nb < 60) := Lib.hid (by omega)
  have HNE : Hid ((by_ : Int) % 60 = (nb : Int)) := Lib.hid (by omega)
  have byb : (by_ : Int) < 256 := by omega
  clear l1 l2 l3 h2 b1 hnb bb
  go_enter Try.func5, Try.ntmps5
  go_upto_region 3 with (first | (simp only [Act.put, List.setIfInBounds_toArray, List.set_cons_zero, List.set_cons_succ]) | ((with_reducible apply own_box HM); exact rfl; (conv => lhs; whnf); exact rfl; exact rfl; (first | (clear tg1; intro w' g1 HM') | (clear tg2; intro w' g2 HM') | (clear tg3; intro w' g3 HM') | (clear tg4; intro w' g4 HM') | (clear tg5; intro w' g5 HM') | (clear tg6; intro w' g6 HM') | (clear tg7; intro w' g7 HM') | (clear tg8; intro w' g8 HM') | (clear tg9; intro w' g9 HM') | intro w' g' HM'); clear HM; have HM := HM'; clear HM'; all_goals skip) | ((with_reducible apply own_alloc HM); exact rfl; (first | (with_reducible exact zeroP) | (with_reducible exact zero11) | (with_reducible exact zero3)); exact rfl; (first | (clear tg1; intro w' g1 HM') | (clear tg2; intro w' g2 HM') | (clear tg3; intro w' g3 HM') | (clear tg4; intro w' g4 HM') | (clear tg5; intro w' g5 HM') | (clear tg6; intro w' g6 HM') | (clear tg7; intro w' g7 HM') | (clear tg8; intro w' g8 HM') | (clear tg9; intro w' g9 HM') | intro w' g' HM'); clear HM; have HM := HM'; clear HM'; all_goals skip) | ((with_reducible apply own_cell HM); exact rfl; exact rfl; (first | (with_reducible exact oneInt) | (with_reducible exact oneBool) | (with_reducible exact oneU8) | (with_reducible exact oneBs) | (with_reducible exact oneTs)); (first | with_reducible exact .z | with_reducible exact .s .z | with_reducible exact .s (.s .z) | with_reducible exact .s (.s (.s .z)) | with_reducible exact .s (.s (.s (.s .z))) | with_reducible exact .s (.s (.s (.s (.s .z))))); (focus repeat' (first | with_reducible exact .z | with_reducible apply Drop.s)); exact rfl; all_goals skip) | ((with_reducible apply own_load HM); exact rfl; exact rfl; (first | (with_reducible exact aggP) | (with_reducible exact agg11) | (with_reducible exact agg3)); (first | with_reducible exact .z | with_reducible exact .s .z | with_reducible exact .s (.s .z) | with_reducible exact .s (.s (.s .z)) | with_reducible exact .s (.s (.s (.s .z))) | with_reducible exact .s (.s (.s (.s (.s .z))))); (focus repeat' (first | with_reducible exact .z | with_reducible apply Drop.s)); (focus repeat' (first | with_reducible exact .z | with_reducible apply Take.s)); exact rfl; all_goals skip) | ((with_reducible apply own_store HM); exact rfl; exact rfl; (conv => lhs; whnf); exact rfl; (first | with_reducible exact .z | with_reducible exact .s .z | with_reducible exact .s (.s .z) | with_reducible exact .s (.s (.s .z)) | with_reducible exact .s (.s (.s (.s .z))) | with_reducible exact .s (.s (.s (.s (.s .z))))); (focus repeat' (first | with_reducible exact .z | with_reducible apply Over.p | with_reducible apply Over.s)); (first | with_reducible exact .z | with_reducible exact .s .z | with_reducible exact .s (.s .z) | with_reducible exact .s (.s (.s .z)) | with_reducible exact .s (.s (.s (.s .z))) | with_reducible exact .s (.s (.s (.s (.s .z))))); (first | (with_reducible exact (aggP).size) | (with_reducible exact (agg11).size) | (with_reducible exact (agg3).size) | (with_reducible exact (oneInt).size) | (with_reducible exact (oneBool).size) | (with_reducible exact (oneU8).size) | (with_reducible exact (oneBs).size) | (with_reducible exact (oneTs).size)); exact rfl; exact rfl; exact rfl; exact rfl; intro w' HM'; clear HM; have HM := HM'; clear HM'; all_goals skip) | (go_at_call 9; (with_reducible refine (alive_any _).mono ?_); rintro e w' ⟨rfl, hb⟩; have HM' := Lib.hid (HM.out.call hb); clear HM hb; have HM := HM'; clear HM'))
  (refine own_inorder HM ?_; (try simp only [Act.put, List.setIfInBounds_toArray, List.set_cons_zero, List.set_cons_succ]); repeat ((fail_if_success (with_reducible refine wpQuiet_nil ?_)); first | go_big_quiet_skip | (go_big_quiet_want; first | ((with_reducible apply quiet_load); exact rfl; (first | (with_reducible exact aggP)); (first | with_reducible exact .z | with_reducible exact .s .z | with_reducible exact .s (.s .z) | with_reducible exact .s (.s (.s .z)) | with_reducible exact .s (.s (.s (.s .z))) | with_reducible exact .s (.s (.s (.s (.s .z))))); (focus repeat' (first | with_reducible exact .z | with_reducible apply Drop.s)); (focus repeat' (first | with_reducible exact .z | with_reducible apply Take.s)); go_big_quiet_op; go_big_quiet_on) | ((with_reducible apply quiet_cell); exact rfl; (first | (with_reducible exact oneTs) | (with_reducible exact oneInt) | (with_reducible exact oneBool) | (with_reducible exact oneU8) | (with_reducible exact oneBs)); (first | with_reducible exact .z | with_reducible exact .s .z | with_reducible exact .s (.s .z) | with_reducible exact .s (.s (.s .z)) | with_reducible exact .s (.s (.s (.s .z))) | with_reducible exact .s (.s (.s (.s (.s .z))))); (focus repeat' (first | with_reducible exact .z | with_reducible apply Drop.s)); go_big_quiet_op; go_big_quiet_on) | (go_big_quiet_op; go_big_quiet_on) | ((with_reducible apply quiet_call); exact fun w => rfl; (focus (go_simp; all_goals with_reducible rfl)); (intro wq HQ; first | (with_reducible exact great_2 a1 a2 n1 c1 n2 c2 _ L1.out L2.out)); go_big_quiet_op; go_big_quiet_on) | (go_big_quiet_op; go_big_quiet_on) | (go_big_quiet_op; refine ⟨_, fun _ _ => rfl, ?_⟩; go_big_quiet_on))))
  refine wpQuiet_nil ?_
  intro w' HM'
  clear HM; have HM := HM'; clear HM'
  clear K3
  have hbp := blt_pic a2 n2 c2
  have EN := HNE.out
  have EN2 : IntKind.u8.wrap ((by_ : Int) % 60) = (nb : Int) := by rw [IntKind.wrap_u8]; omega
  have EN3 : (by_ : Int).tmod 60 = (nb : Int) := by rw [Int.tmod_eq_emod_of_nonneg (by omega)]; exact EN
  go_upto_region 12 with (first | (simp only [Act.put, List.setIfInBounds_toArray, List.set_cons_zero, List.set_cons_succ]) | ((with_reducible apply built_by hbp); exact rfl; (focus (go_simp; done)); exact rfl; all_goals skip) | ((with_reducible apply own_box HM); exact rfl; (conv => lhs; whnf); exact rfl; exact rfl; (first | (clear tg1; intro w' g1 HM') | (clear tg2; intro w' g2 HM') | (clear tg3; intro w' g3 HM') | (clear tg4; intro w' g4 HM') | (clear tg5; intro w' g5 HM') | (clear tg6; intro w' g6 HM') | (clear tg7; intro w' g7 HM') | (clear tg8; intro w' g8 HM') | (clear tg9; intro w' g9 HM') | intro w' g' HM'); clear HM; have HM := HM'; clear HM'; all_goals skip) | ((with_reducible apply own_alloc HM); exact rfl; (first | (with_reducible exact zeroP) | (with_reducible exact zero11) | (with_reducible exact zero3)); exact rfl; (first | (clear tg1; intro w' g1 HM') | (clear tg2; intro w' g2 HM') | (clear tg3; intro w' g3 HM') | (clear tg4; intro w' g4 HM') | (clear tg5; intro w' g5 HM') | (clear tg6; intro w' g6 HM') | (clear tg7; intro w' g7 HM') | (clear tg8; intro w' g8 HM') | (clear tg9; intro w' g9 HM') | intro w' g' HM'); clear HM; have HM := HM'; clear HM'; all_goals skip) | ((with_reducible apply own_cell HM); exact rfl; exact rfl; (first | (with_reducible exact oneInt) | (with_reducible exact oneBool) | (with_reducible exact oneU8) | (with_reducible exact oneBs) | (with_reducible exact oneTs)); (first | with_reducible exact .z | with_reducible exact .s .z | with_reducible exact .s (.s .z) | with_reducible exact .s (.s (.s .z)) | with_reducible exact .s (.s (.s (.s .z))) | with_reducible exact .s (.s (.s (.s (.s .z))))); (focus repeat' (first | with_reducible exact .z | with_reducible apply Drop.s)); exact rfl; all_goals skip) | ((with_reducible apply own_load HM); exact rfl; exact rfl; (first | (with_reducible exact aggP) | (with_reducible exact agg11) | (with_reducible exact agg3)); (first | with_reducible exact .z | with_reducible exact .s .z | with_reducible exact .s (.s .z) | with_reducible exact .s (.s (.s .z)) | with_reducible exact .s (.s (.s (.s .z))) | with_reducible exact .s (.s (.s (.s (.s .z))))); (focus repeat' (first | with_reducible exact .z | with_reducible apply Drop.s)); (focus repeat' (first | with_reducible exact .z | with_reducible apply Take.s)); exact rfl; all_goals skip) | ((with_reducible apply own_store HM); exact rfl; exact rfl; (conv => lhs; whnf); exact rfl; (first | with_reducible exact .z | with_reducible exact .s .z | with_reducible exact .s (.s .z) | with_reducible exact .s (.s (.s .z)) | with_reducible exact .s (.s (.s (.s .z))) | with_reducible exact .s (.s (.s (.s (.s .z))))); (focus repeat' (first | with_reducible exact .z | with_reducible apply Over.p | with_reducible apply Over.s)); (first | with_reducible exact .z | with_reducible exact .s .z | with_reducible exact .s (.s .z) | with_reducible exact .s (.s (.s .z)) | with_reducible exact .s (.s (.s (.s .z))) | with_reducible exact .s (.s (.s (.s (.s .z))))); (first | (with_reducible exact (aggP).size) | (with_reducible exact (agg11).size) | (with_reducible exact (agg3).size) | (with_reducible exact (oneInt).size) | (with_reducible exact (oneBool).size) | (with_reducible exact (oneU8).size) | (with_reducible exact (oneBs).size) | (with_reducible exact (oneTs).size)); exact rfl; exact rfl; exact rfl; exact rfl; intro w' HM'; clear HM; have HM := HM'; clear HM'; all_goals skip))
  clear hbp EN EN2 EN3 byb
  go_loopw [39] (fun i wr => ∃ (j : Nat) (R1 R2 : List (Nat × TypeId × List Value)) (p q : Option Addr) (cp cq : Nat), j ≤ n1 ∧ i = .int .i64 (j : Int) ∧ Hid (RowN 3 36 R1 (.slice p j cp) j (tris (mvA sp) j)) ∧ Hid (RowN 3 36 R2 (.slice q j cq) j (tris (mvB sp nb) j)) ∧ Hid (Own w wr ((g4, 31, [.slice q j cq, .slice a2 n2 c2]) :: (g3, 31, [.slice p j cp, .slice a2 n2 c2]) :: (g2, 26, [.int .u8 0, .int .u8 (r1 : Int), .int .u8 (r2 : Int), .int .u8 (r3 : Int), .int .u8 (r4 : Int), .int .u8 126, .int .u8 0, .int .u8 (r7 : Int), .int .u8 (r8 : Int), .int .u8 (r9 : Int), .int .u8 (r10 : Int)]) :: (g1, 31, [.slice a1 n1 c1, .slice a2 n2 c2]) :: (R1 ++ R2)))) (fun i _ => n1 - (intOf i).toNat)
  case atStart => exact ⟨0, [], [], none, none, 0, 0, by omega, rfl, Lib.hid (RowN.nil 3 _), Lib.hid (RowN.nil 3 _), HM⟩
  case round =>
    clear HM
    obtain ⟨j, R1, R2, p, q, cp, cq, hj, rfl, HR1, HR2, HM⟩ := hrel
    by_cases hlt : j < n1
    · have hlt' : (j : Int) < (n1 : Int) := by omega
      have hj30 : (j : Int) < 30 := by have := L3.out; omega
      have HJ := Lib.hid hlt
      obtain ⟨gs, os, ha, hg, hc⟩ := h1 (by omega)
      subst ha
      have HT3 : Hid (∀ i, i < n1 → ∀ k, k < 3 → w.cell? ⟨gs, os + i * 3 + k, none⟩ = some (.int .u8 (sp i k : Int))) := Lib.hid fun i hi k hk => (hc i hi k hk).1
      have HG := Lib.hid hg
      obtain ⟨x1, hx1⟩ : ∃ x, sp j 1 % 160 = x := ⟨_, rfl⟩
      obtain ⟨x2, hx2⟩ : ∃ x, x1 + nb = x := ⟨_, rfl⟩
      have HX : Hid (sp j 1 % 160 = x1 ∧ x1 + nb = x2) := Lib.hid ⟨hx1, hx2⟩
      have s8 : ((sp j 1 : Nat) : Int) < 256 := by have := HSP.out j hlt 1 (by omega); omega
      have M1 : ((sp j 1 : Nat) : Int) % 160 = (x1 : Int) := by omega
      have M1' : IntKind.u8.wrap (((sp j 1 : Nat) : Int) % 160) = (x1 : Int) := by rw [IntKind.wrap_u8]; omega
      have M1'' : ((sp j 1 : Nat) : Int).tmod 160 = (x1 : Int) := by rw [Int.tmod_eq_emod_of_nonneg (by omega)]; exact M1
      have M2 : (x1 : Int) + (nb : Int) = (x2 : Int) := by omega
      have M3 : (x1 : Int) < 160 := by omega
      have M4 : (x2 : Int) < 220 := by have := HNB.out; omega
      have M5 : (nb : Int) < 60 := by have := HNB.out; omega
      obtain ⟨i0, hi, hz0, hz1, hz2⟩ := three_parts
      have hm1 := made_t1 (sp j 0 : Int) (x1 : Int) (sp j 2 : Int)
      have hm2 := made_t1 (sp j 0 : Int) (x2 : Int) (sp j 2 : Int)
      have HJ30 : Hid (j ≤ 100000) := Lib.hid (by omega)
      clear hc hg hlt hj hx1 hx2
      go_upto_region 15 with (first
            | (simp only [Act.put, List.setIfInBounds_toArray, List.set_cons_zero, List.set_cons_succ])
            | (refine own_tri (i := j) (n := n1) (ob := os) (sp := sp) HM HT3 HG.out HJ.out rfl rfl ?hoff agg3 rfl ?_; (case hoff => first | rfl | omega | (simp; done) | (simp; omega)); all_goals skip)
            | ((with_reducible apply own_made (cs := [.int .u8 (sp j 0 : Int), .int .u8 (x1 : Int), .int .u8 (sp j 2 : Int)]) (e := 36) (n := 1) HM); exact rfl; exact hm1; (focus (first | exact rfl | (go_simp; done))); exact rfl; intro w' g9 HM'; clear HM; have HM := HM'; clear HM')
            | ((with_reducible apply own_app_a (tS := 29) (L := [(_, 36, _), (g4, 31, _), (g3, 31, _), (g2, 26, [.int .u8 0, .int .u8 (r1 : Int), .int .u8 (r2 : Int), .int .u8 (r3 : Int), .int .u8 (r4 : Int), .int .u8 126, .int .u8 0, .int .u8 (r7 : Int), .int .u8 (r8 : Int), .int .u8 (r9 : Int), .int .u8 (r10 : Int)]), (g1, 31, _)]) HM HR1); exact rfl; exact rfl; exact rfl; exact rfl; exact Try.underlying29; exact hi; exact hz0; exact hz1; exact hz2; exact rfl; decide; decide; exact rfl; exact rfl; exact HJ30.out; exact rfl; intro v' w' R' HR' HM'; obtain ⟨p', cp', rfl⟩ := HR'.out.slice; simp only [List.cons_append, List.nil_append] at HM'; clear HM HR1; have HM := HM'; have HR1 := HR'; clear HM' HR')
            | ((with_reducible apply own_box HM); exact rfl; (conv => lhs; whnf); exact rfl; exact rfl; (first | (clear tg1; intro w' g1 HM') | (clear tg2; intro w' g2 HM') | (clear tg3; intro w' g3 HM') | (clear tg4; intro w' g4 HM') | (clear tg5; intro w' g5 HM') | (clear tg6; intro w' g6 HM') | (clear tg7; intro w' g7 HM') | (clear tg8; intro w' g8 HM') | (clear tg9; intro w' g9 HM') | intro w' g' HM'); clear HM; have HM := HM'; clear HM'; all_goals skip) | ((with_reducible apply own_alloc HM); exact rfl; (first | (with_reducible exact zeroP) | (with_reducible exact zero11) | (with_reducible exact zero3)); exact rfl; (first | (clear tg1; intro w' g1 HM') | (clear tg2; intro w' g2 HM') | (clear tg3; intro w' g3 HM') | (clear tg4; intro w' g4 HM') | (clear tg5; intro w' g5 HM') | (clear tg6; intro w' g6 HM') | (clear tg7; intro w' g7 HM') | (clear tg8; intro w' g8 HM') | (clear tg9; intro w' g9 HM') | intro w' g' HM'); clear HM; have HM := HM'; clear HM'; all_goals skip) | ((with_reducible apply own_cell HM); exact rfl; exact rfl; (first | (with_reducible exact oneInt) | (with_reducible exact oneBool) | (with_reducible exact oneU8) | (with_reducible exact oneBs) | (with_reducible exact oneTs)); (first | with_reducible exact .z | with_reducible exact .s .z | with_reducible exact .s (.s .z) | with_reducible exact .s (.s (.s .z)) | with_reducible exact .s (.s (.s (.s .z))) | with_reducible exact .s (.s (.s (.s (.s .z))))); (focus repeat' (first | with_reducible exact .z | with_reducible apply Drop.s)); exact rfl; all_goals skip) | ((with_reducible apply own_load HM); exact rfl; exact rfl; (first | (with_reducible exact aggP) | (with_reducible exact agg11) | (with_reducible exact agg3)); (first | with_reducible exact .z | with_reducible exact .s .z | with_reducible exact .s (.s .z) | with_reducible exact .s (.s (.s .z)) | with_reducible exact .s (.s (.s (.s .z))) | with_reducible exact .s (.s (.s (.s (.s .z))))); (focus repeat' (first | with_reducible exact .z | with_reducible apply Drop.s)); (focus repeat' (first | with_reducible exact .z | with_reducible apply Take.s)); exact rfl; all_goals skip) | ((with_reducible apply own_store HM); exact rfl; exact rfl; (conv => lhs; whnf); exact rfl; (first | with_reducible exact .z | with_reducible exact .s .z | with_reducible exact .s (.s .z) | with_reducible exact .s (.s (.s .z)) | with_reducible exact .s (.s (.s (.s .z))) | with_reducible exact .s (.s (.s (.s (.s .z))))); (focus repeat' (first | with_reducible exact .z | with_reducible apply Over.p | with_reducible apply Over.s)); (first | with_reducible exact .z | with_reducible exact .s .z | with_reducible exact .s (.s .z) | with_reducible exact .s (.s (.s .z)) | with_reducible exact .s (.s (.s (.s .z))) | with_reducible exact .s (.s (.s (.s (.s .z))))); (first | (with_reducible exact (aggP).size) | (with_reducible exact (agg11).size) | (with_reducible exact (agg3).size) | (with_reducible exact (oneInt).size) | (with_reducible exact (oneBool).size) | (with_reducible exact (oneU8).size) | (with_reducible exact (oneBs).size) | (with_reducible exact (oneTs).size)); exact rfl; exact rfl; exact rfl; exact rfl; intro w' HM'; clear HM; have HM := HM'; clear HM'; all_goals skip))
      go_wp2_with (first
            | (simp only [Act.put, List.setIfInBounds_toArray, List.set_cons_zero, List.set_cons_succ])
            | ((with_reducible apply own_made (cs := [.int .u8 (sp j 0 : Int), .int .u8 (x2 : Int), .int .u8 (sp j 2 : Int)]) (e := 36) (n := 1) HM); exact rfl; exact hm2; (focus (first | exact rfl | (go_simp; done))); exact rfl; intro w' g9 HM'; clear HM; have HM := HM'; clear HM')
            | ((with_reducible apply own_app_b (tS := 29) (L := [(_, 36, _), (g4, 31, _), (g3, 31, _), (g2, 26, [.int .u8 0, .int .u8 (r1 : Int), .int .u8 (r2 : Int), .int .u8 (r3 : Int), .int .u8 (r4 : Int), .int .u8 126, .int .u8 0, .int .u8 (r7 : Int), .int .u8 (r8 : Int), .int .u8 (r9 : Int), .int .u8 (r10 : Int)]), (g1, 31, _)]) HM HR2); exact rfl; exact rfl; exact rfl; exact rfl; exact Try.underlying29; exact hi; exact hz0; exact hz1; exact hz2; exact rfl; decide; decide; exact rfl; exact rfl; exact HJ30.out; exact rfl; intro v' w' R' HR' HM'; obtain ⟨p', cp', rfl⟩ := HR'.out.slice; simp only [List.cons_append, List.nil_append] at HM'; clear HM HR2; have HM := HM'; have HR2 := HR'; clear HM' HR')
            | ((with_reducible apply own_box HM); exact rfl; (conv => lhs; whnf); exact rfl; exact rfl; (first | (clear tg1; intro w' g1 HM') | (clear tg2; intro w' g2 HM') | (clear tg3; intro w' g3 HM') | (clear tg4; intro w' g4 HM') | (clear tg5; intro w' g5 HM') | (clear tg6; intro w' g6 HM') | (clear tg7; intro w' g7 HM') | (clear tg8; intro w' g8 HM') | (clear tg9; intro w' g9 HM') | intro w' g' HM'); clear HM; have HM := HM'; clear HM'; all_goals skip) | ((with_reducible apply own_alloc HM); exact rfl; (first | (with_reducible exact zeroP) | (with_reducible exact zero11) | (with_reducible exact zero3)); exact rfl; (first | (clear tg1; intro w' g1 HM') | (clear tg2; intro w' g2 HM') | (clear tg3; intro w' g3 HM') | (clear tg4; intro w' g4 HM') | (clear tg5; intro w' g5 HM') | (clear tg6; intro w' g6 HM') | (clear tg7; intro w' g7 HM') | (clear tg8; intro w' g8 HM') | (clear tg9; intro w' g9 HM') | intro w' g' HM'); clear HM; have HM := HM'; clear HM'; all_goals skip) | ((with_reducible apply own_cell HM); exact rfl; exact rfl; (first | (with_reducible exact oneInt) | (with_reducible exact oneBool) | (with_reducible exact oneU8) | (with_reducible exact oneBs) | (with_reducible exact oneTs)); (first | with_reducible exact .z | with_reducible exact .s .z | with_reducible exact .s (.s .z) | with_reducible exact .s (.s (.s .z)) | with_reducible exact .s (.s (.s (.s .z))) | with_reducible exact .s (.s (.s (.s (.s .z))))); (focus repeat' (first | with_reducible exact .z | with_reducible apply Drop.s)); exact rfl; all_goals skip) | ((with_reducible apply own_load HM); exact rfl; exact rfl; (first | (with_reducible exact aggP) | (with_reducible exact agg11) | (with_reducible exact agg3)); (first | with_reducible exact .z | with_reducible exact .s .z | with_reducible exact .s (.s .z) | with_reducible exact .s (.s (.s .z)) | with_reducible exact .s (.s (.s (.s .z))) | with_reducible exact .s (.s (.s (.s (.s .z))))); (focus repeat' (first | with_reducible exact .z | with_reducible apply Drop.s)); (focus repeat' (first | with_reducible exact .z | with_reducible apply Take.s)); exact rfl; all_goals skip) | ((with_reducible apply own_store HM); exact rfl; exact rfl; (conv => lhs; whnf); exact rfl; (first | with_reducible exact .z | with_reducible exact .s .z | with_reducible exact .s (.s .z) | with_reducible exact .s (.s (.s .z)) | with_reducible exact .s (.s (.s (.s .z))) | with_reducible exact .s (.s (.s (.s (.s .z))))); (focus repeat' (first | with_reducible exact .z | with_reducible apply Over.p | with_reducible apply Over.s)); (first | with_reducible exact .z | with_reducible exact .s .z | with_reducible exact .s (.s .z) | with_reducible exact .s (.s (.s .z)) | with_reducible exact .s (.s (.s (.s .z))) | with_reducible exact .s (.s (.s (.s (.s .z))))); (first | (with_reducible exact (aggP).size) | (with_reducible exact (agg11).size) | (with_reducible exact (agg3).size) | (with_reducible exact (oneInt).size) | (with_reducible exact (oneBool).size) | (with_reducible exact (oneU8).size) | (with_reducible exact (oneBs).size) | (with_reducible exact (oneTs).size)); exact rfl; exact rfl; exact rfl; exact rfl; intro w' HM'; clear HM; have HM := HM'; clear HM'; all_goals skip))
      go_roundw
      case rel =>
        refine ⟨j + 1, _, _, _, _, _, _, by have := HJ.out; omega, by go_num, ?_, ?_, Lib.hid HM.out.forget⟩
        · show RowN _ _ _ _ _ (tris (mvA sp) j ++ [.int .u8 ((sp j 0 : Nat) : Int), .int .u8 ((sp j 1 % 160 : Nat) : Int), .int .u8 ((sp j 2 : Nat) : Int)])
          rw [HX.out.1]; exact HR1.out
        · show RowN _ _ _ _ _ (tris (mvB sp nb) j ++ [.int .u8 ((sp j 0 : Nat) : Int), .int .u8 ((sp j 1 % 160 + nb : Nat) : Int), .int .u8 ((sp j 2 : Nat) : Int)])
          rw [HX.out.1, HX.out.2]; exact HR2.out
      case measure => have := HJ.out; simp [intOf]; omega
    · have hge : ¬ (j : Int) < (n1 : Int) := by omega
      have hjn : j = n1 := by omega
      have HJN := Lib.hid hjn
      clear hlt hj hjn
      have HSA1 : Hid (∀ i, i < j → ∀ k, k < 3 → mvA sp i k < 256) := Lib.hid fun i hi k hk => by
        unfold mvA
        split
        · omega
        · exact HSP.out i (by have := HJN.out; omega) k hk
      have HSB1 : Hid (∀ i, i < j → ∀ k, k < 3 → mvB sp nb i k < 256) := Lib.hid fun i hi k hk => by
        unfold mvB
        have := HNB.out
        split
        · omega
        · exact HSP.out i (by have := HJN.out; omega) k hk
      have HC64 : Hid (j ≤ 64) := Lib.hid (by have := L1.out; have := HJN.out; omega)
      obtain ⟨yv, HYV⟩ : ∃ y, Hid (bMem (bTile tl n2) 16128 (mvA sp) j = y) := ⟨_, rfl⟩
      obtain ⟨yw, HYW⟩ : ∃ y, Hid (bMem (bTile tl n2) 16128 (mvB sp nb) j = y) := ⟨_, rfl⟩
      have HVv : Hid (∀ i, yv i < 256) := Lib.hid (by rw [← HYV.out]; exact bMem_lt (bTile_lt HTL.out) HSA1.out)
      have HVw : Hid (∀ i, yw i < 256) := Lib.hid (by rw [← HYW.out]; exact bMem_lt (bTile_lt HTL.out) HSB1.out)
      obtain ⟨fa, hfa⟩ : ∃ f, Hid (spC 16384 yv 0 r1 126 0 40 = f) := ⟨_, rfl⟩
      obtain ⟨oa, hoa⟩ : ∃ f, Hid (spO 16384 yv r1 126 40 = f) := ⟨_, rfl⟩
      obtain ⟨ca, hca⟩ : ∃ f, Hid (spK 16384 yv 0 r1 126 0 40 = f) := ⟨_, rfl⟩
      obtain ⟨fb, hfb⟩ : ∃ f, Hid (spC 16384 yw 0 r1 126 0 40 = f) := ⟨_, rfl⟩
      obtain ⟨ob, hob⟩ : ∃ f, Hid (spO 16384 yw r1 126 40 = f) := ⟨_, rfl⟩
      obtain ⟨cb, hcb⟩ : ∃ f, Hid (spK 16384 yw 0 r1 126 0 40 = f) := ⟨_, rfl⟩
      have hn64 : j < 64 := by have := L3.out; have := HJN.out; omega
      have m0 : ∀ i, mvB sp nb i 0 = mvA sp i 0 := fun i => rfl
      have m1 : ∀ i, mvB sp nb i 1 = mvA sp i 1 + nb := fun i => rfl
      have m2 : ∀ i, mvB sp nb i 2 = mvA sp i 2 := fun i => rfl
      have m8 : ∀ i, i < j → mvA sp i 2 < 256 := fun i hi => HSA1.out i hi 2 (by omega)
      have CM : Hid (∀ x, fb (x + nb) = fa x) := Lib.hid fun x => by
        rw [← hfb.out, ← hfa.out, ← HYW.out, ← HYV.out]
        exact color_moved (bTile tl n2) (mvA sp) (mvB sp nb) j nb r1 40 hn64 m0 m1 m2 m8 x
      have CN : Hid (∀ x, x < nb → fb x = 0) := Lib.hid fun x hx => by
        rw [← hfb.out, ← HYW.out]
        exact color_none (bTile tl n2) (mvA sp) (mvB sp nb) j nb r1 40 hn64 m1 m2 m8 x hx
      have OM : ob = oa := by
        rw [← hob.out, ← hoa.out, ← HYW.out, ← HYV.out]
        exact over_moved (bTile tl n2) (mvA sp) (mvB sp nb) j r1 40 hn64 m0
      have KM : cb = ca := by
        rw [← hcb.out, ← hca.out, ← HYW.out, ← HYV.out]
        exact meets_moved (bTile tl n2) (mvA sp) (mvB sp nb) j nb r1 40 hn64 m0 m1 m2 m8 (fun i _ => by show sp i 1 % 160 < 160; omega) HNB.out
      subst OM KM
      clear hn64 m0 m1 m2 m8
      go_upto_region 17 with fail
      go_cut [12, 13] from 72 to 81 (fun s12 s13 wx => ∃ ha hb_ l, s12 = .pointer (some ⟨ha, 0, none⟩) ∧ s13 = .pointer (some ⟨hb_, 0, none⟩) ∧ Hid (Own w wx l) ∧ Hid (Sel l ha 39 (rcells fa ob cb)) ∧ Hid (Sel l hb_ 39 (rcells fb ob cb)))
      case' first =>
        refine wp_region_held (S := fun w' => Own w w' ((g4, 31, [.slice q j cq, .slice a2 n2 c2]) :: (g3, 31, [.slice p j cp, .slice a2 n2 c2]) :: (g2, 26, [.int .u8 0, .int .u8 (r1 : Int), .int .u8 (r2 : Int), .int .u8 (r3 : Int), .int .u8 (r4 : Int), .int .u8 126, .int .u8 0, .int .u8 (r7 : Int), .int .u8 (r8 : Int), .int .u8 (r9 : Int), .int .u8 (r10 : Int)]) :: (g1, 31, [.slice a1 n1 c1, .slice a2 n2 c2]) :: (R1 ++ R2))) (by kernel_rfl) ?_
        replace HM := Lib.hid HM.out.drew
        change wpAnyH _ _ _ _ _ _ _ _ (World.drew _)
        have HQ := HM.out
        refine h_take (i := 0) (d := 72) (v := .agg #[.slice p j cp, .slice a2 n2 c2]) rfl rfl (by kernel_rfl) (by kernel_rfl) (by kernel_rfl) (fun _ _ _ h => h) (y_row (g := g3) rfl rfl aggP (.s .z) rfl rfl) HQ ?_
        (try simp only [Act.put, List.setIfInBounds_toArray, List.set_cons_zero, List.set_cons_succ])
        refine h_take (i := 1) (d := 73) (v := .agg #[.int .u8 0, .int .u8 (r1 : Int), .int .u8 (r2 : Int), .int .u8 (r3 : Int), .int .u8 (r4 : Int), .int .u8 126, .int .u8 0, .int .u8 (r7 : Int), .int .u8 (r8 : Int), .int .u8 (r9 : Int), .int .u8 (r10 : Int)]) rfl rfl (by kernel_rfl) (by kernel_rfl) (by kernel_rfl) (fun _ _ _ h => h) (y_row (g := g2) rfl rfl agg11 (.s (.s .z)) rfl rfl) HQ ?_
        (try simp only [Act.put, List.setIfInBounds_toArray, List.set_cons_zero, List.set_cons_succ])
        refine h_take (i := 3) (d := 75) (v := .agg #[.int .u8 0, .int .u8 (r1 : Int), .int .u8 (r2 : Int), .int .u8 (r3 : Int), .int .u8 (r4 : Int), .int .u8 126, .int .u8 0, .int .u8 (r7 : Int), .int .u8 (r8 : Int), .int .u8 (r9 : Int), .int .u8 (r10 : Int)]) rfl rfl (by kernel_rfl) (by kernel_rfl) (by kernel_rfl) (fun _ _ _ h => h) (y_row (g := g2) rfl rfl agg11 (.s (.s .z)) rfl rfl) HQ ?_
        (try simp only [Act.put, List.setIfInBounds_toArray, List.set_cons_zero, List.set_cons_succ])
        refine h_take (i := 5) (d := 77) (v := .agg #[.slice q j cq, .slice a2 n2 c2]) rfl rfl (by kernel_rfl) (by kernel_rfl) (by kernel_rfl) (fun _ _ _ h => h) (y_row (g := g4) rfl rfl aggP .z rfl rfl) HQ ?_
        (try simp only [Act.put, List.setIfInBounds_toArray, List.set_cons_zero, List.set_cons_succ])
        refine h_take (i := 6) (d := 78) (v := .agg #[.int .u8 0, .int .u8 (r1 : Int), .int .u8 (r2 : Int), .int .u8 (r3 : Int), .int .u8 (r4 : Int), .int .u8 126, .int .u8 0, .int .u8 (r7 : Int), .int .u8 (r8 : Int), .int .u8 (r9 : Int), .int .u8 (r10 : Int)]) rfl rfl (by kernel_rfl) (by kernel_rfl) (by kernel_rfl) (fun _ _ _ h => h) (y_row (g := g2) rfl rfl agg11 (.s (.s .z)) rfl rfl) HQ ?_
        (try simp only [Act.put, List.setIfInBounds_toArray, List.set_cons_zero, List.set_cons_succ])
        refine h_take (i := 8) (d := 80) (v := .agg #[.int .u8 0, .int .u8 (r1 : Int), .int .u8 (r2 : Int), .int .u8 (r3 : Int), .int .u8 (r4 : Int), .int .u8 126, .int .u8 0, .int .u8 (r7 : Int), .int .u8 (r8 : Int), .int .u8 (r9 : Int), .int .u8 (r10 : Int)]) rfl rfl (by kernel_rfl) (by kernel_rfl) (by kernel_rfl) (fun _ _ _ h => h) (y_row (g := g2) rfl rfl agg11 (.s (.s .z)) rfl rfl) HQ ?_
        (try simp only [Act.put, List.setIfInBounds_toArray, List.set_cons_zero, List.set_cons_succ])
        clear HQ
        have HM0 := HM
        clear HM
        refine wpAnyH_all (rs := [2, 10, 11]) (by kernel_rfl) (by simp) ?_
        intro i hi
        simp only [List.mem_cons, List.not_mem_nil, or_false] at hi
        rcases hi with rfl | rfl | rfl
        · refine wpOp_of rfl rfl ?_
          refine w_call (f := 12) (args := #[.agg #[.slice p j cp, .slice a2 n2 c2], .agg #[.int .u8 0, .int .u8 (r1 : Int), .int .u8 (r2 : Int), .int .u8 (r3 : Int), .int .u8 (r4 : Int), .int .u8 126, .int .u8 0, .int .u8 (r7 : Int), .int .u8 (r8 : Int), .int .u8 (r9 : Int), .int .u8 (r10 : Int)]]) (fun w => rfl) (by go_simp) ?_
          refine (build_z p a2 j cp n2 c2 (mvA sp) tl r1 r2 r3 r4 r7 r8 r9 r10 _ (tri_now HR1.out (Own.rows1 (l := [_, _, _, _]) HM0.out) HSA1.out) (HT2.out.under (Own.fin HM0)) HC64.out L2.out yv HYV).mono ?_
          rintro e w0 ⟨gv, rfl, hg, hW, hb⟩
          have HM1 := Lib.hid (HM0.out.plus hb hg hW)
          refine ⟨_, rfl, HM1.out.forget, ?_⟩
          clear hg hW hb HM0
          change wpAnyH _ _ _ _ _ _ _ (Act.put _ (some 74) _) _
          (try simp only [Act.put, List.setIfInBounds_toArray, List.set_cons_zero, List.set_cons_succ])
          refine wpAnyH_all (rs := [4, 10, 11]) (by kernel_rfl) (by simp) ?_
          intro i hi
          simp only [List.mem_cons, List.not_mem_nil, or_false] at hi
          rcases hi with rfl | rfl | rfl
          · refine wpOp_of rfl rfl ?_
            refine w_call (f := 15) (args := #[.slice (some ⟨gv, 0, none⟩) 16384 16384, .agg #[.int .u8 0, .int .u8 (r1 : Int), .int .u8 (r2 : Int), .int .u8 (r3 : Int), .int .u8 (r4 : Int), .int .u8 126, .int .u8 0, .int .u8 (r7 : Int), .int .u8 (r8 : Int), .int .u8 (r9 : Int), .int .u8 (r10 : Int)], .int .i64 40]) (fun w => rfl) (by go_simp) ?_
            refine (line_z _ 16384 16384 yv r1 r2 r3 r4 r7 r8 r9 r10 40 H1.out H40.out H40'.out fa ob cb hfa hoa hca _ (HM1.out.byteRow .z HVv.out)).mono ?_
            rintro e w1 ⟨rfl, hb⟩
            have HM2 := Lib.hid (HM1.out.call hb)
            refine ⟨_, rfl, HM2.out.forget, ?_⟩
            clear hb HM1
            change wpAnyH _ _ _ _ _ _ _ (Act.put _ (some 76) _) _
            (try simp only [Act.put, List.setIfInBounds_toArray, List.set_cons_zero, List.set_cons_succ])
            refine wpAnyH_all (rs := [7, 10, 11]) (by kernel_rfl) (by simp) ?_
            intro i hi
            simp only [List.mem_cons, List.not_mem_nil, or_false] at hi
            rcases hi with rfl | rfl | rfl
            · refine wpOp_of rfl rfl ?_
              refine w_call (f := 12) (args := #[.agg #[.slice q j cq, .slice a2 n2 c2], .agg #[.int .u8 0, .int .u8 (r1 : Int), .int .u8 (r2 : Int), .int .u8 (r3 : Int), .int .u8 (r4 : Int), .int .u8 126, .int .u8 0, .int .u8 (r7 : Int), .int .u8 (r8 : Int), .int .u8 (r9 : Int), .int .u8 (r10 : Int)]]) (fun w => rfl) (by go_simp) ?_
              refine (build_z q a2 j cq n2 c2 (mvB sp nb) tl r1 r2 r3 r4 r7 r8 r9 r10 _ (tri_now HR2.out (Own.rows2 (l := [_, _, _, _, _]) HM2.out) HSB1.out) (HT2.out.under (Own.fin HM2)) HC64.out L2.out yw HYW).mono ?_
              rintro e w2 ⟨gw, rfl, hg, hW, hb⟩
              have HM3 := Lib.hid (HM2.out.plus hb hg hW)
              refine ⟨_, rfl, HM3.out.forget.forget, ?_⟩
              clear hg hW hb HM2
              change wpAnyH _ _ _ _ _ _ _ (Act.put _ (some 79) _) _
              (try simp only [Act.put, List.setIfInBounds_toArray, List.set_cons_zero, List.set_cons_succ])
              refine wpAnyH_all (rs := [9, 10, 11]) (by kernel_rfl) (by simp) ?_
              intro i hi
              simp only [List.mem_cons, List.not_mem_nil, or_false] at hi
              rcases hi with rfl | rfl | rfl
              · refine wpOp_of rfl rfl ?_
                refine w_call (f := 15) (args := #[.slice (some ⟨gw, 0, none⟩) 16384 16384, .agg #[.int .u8 0, .int .u8 (r1 : Int), .int .u8 (r2 : Int), .int .u8 (r3 : Int), .int .u8 (r4 : Int), .int .u8 126, .int .u8 0, .int .u8 (r7 : Int), .int .u8 (r8 : Int), .int .u8 (r9 : Int), .int .u8 (r10 : Int)], .int .i64 40]) (fun w => rfl) (by go_simp) ?_
                refine (line_z _ 16384 16384 yw r1 r2 r3 r4 r7 r8 r9 r10 40 H1.out H40.out H40'.out fb ob cb hfb hob hcb _ (HM3.out.byteRow .z HVw.out)).mono ?_
                rintro e w3 ⟨rfl, hb⟩
                have HM4 := Lib.hid (HM3.out.call hb)
                refine ⟨_, rfl, HM4.out.forget.forget, ?_⟩
                clear hb HM3
                change wpAnyH _ _ _ _ _ _ _ (Act.put _ (some 81) _) _
                (try simp only [Act.put, List.setIfInBounds_toArray, List.set_cons_zero, List.set_cons_succ])
                refine wpAnyH_all (rs := [10, 11]) (by kernel_rfl) (by simp) ?_
                intro i hi
                simp only [List.mem_cons, List.not_mem_nil, or_false] at hi
                rcases hi with rfl | rfl
                · refine wpOp_of rfl rfl ?_
                  refine w_alloc HM4 rfl zeroRow ?_
                  intro w4 ha HM5
                  refine ⟨HM5.out.forget.forget.forget, ?_⟩
                  clear HM4
                  change wpAnyH _ _ _ _ _ _ _ (Act.put _ (some 12) _) _
                  (try simp only [Act.put, List.setIfInBounds_toArray, List.set_cons_zero, List.set_cons_succ])
                  refine wpAnyH_all (rs := [11]) (by kernel_rfl) (by simp) ?_
                  intro i hi
                  obtain rfl := List.mem_singleton.1 hi
                  refine wpOp_of rfl rfl ?_
                  refine w_alloc HM5 rfl zeroRow ?_
                  intro w5 hb_ HM6
                  refine ⟨HM6.out.forget.forget.forget.forget, ?_⟩
                  clear HM5
                  change wpAnyH _ _ _ _ _ _ _ (Act.put _ (some 13) _) _
                  (try simp only [Act.put, List.setIfInBounds_toArray, List.set_cons_zero, List.set_cons_succ])
                  refine wpAnyH_all (rs := [12]) (by kernel_rfl) (by simp) ?_
                  intro i hi
                  obtain rfl := List.mem_singleton.1 hi
                  refine wpOp_of rfl rfl ?_
                  refine w_lay HM6 rfl rfl rfl (.s .z) (.s .z) aggRow.size (rcells_length _ _ _) (rcells_length _ _ _) (rcells_one _ _ _) rfl ?_
                  intro w6 HM7
                  refine ⟨HM7.out.forget.forget.forget.forget, ?_⟩
                  clear HM6
                  refine wpAnyH_all (rs := [13]) (by kernel_rfl) (by simp) ?_
                  intro i hi
                  obtain rfl := List.mem_singleton.1 hi
                  refine wpOp_of rfl rfl ?_
                  refine w_lay HM7 rfl rfl rfl .z .z aggRow.size (rcells_length _ _ _) (rcells_length _ _ _) (rcells_one _ _ _) rfl ?_
                  intro w7 HM8
                  refine ⟨HM8.out.forget.forget.forget.forget, ?_⟩
                  clear HM7
                  refine wpAnyH_done (by kernel_rfl) ?_ _
                  go_wp2_with fail
                  go_meet
                  exact ⟨ha, hb_, _, rfl, rfl, HM8, Lib.hid (.s .z), Lib.hid .z⟩
                · refine wpOp_of rfl rfl ?_
                  refine w_alloc HM4 rfl zeroRow ?_
                  intro w4 hb_ HM5
                  refine ⟨HM5.out.forget.forget.forget, ?_⟩
                  clear HM4
                  change wpAnyH _ _ _ _ _ _ _ (Act.put _ (some 13) _) _
                  (try simp only [Act.put, List.setIfInBounds_toArray, List.set_cons_zero, List.set_cons_succ])
                  refine wpAnyH_all (rs := [10]) (by kernel_rfl) (by simp) ?_
                  intro i hi
                  obtain rfl := List.mem_singleton.1 hi
                  refine wpOp_of rfl rfl ?_
                  refine w_alloc HM5 rfl zeroRow ?_
                  intro w5 ha HM6
                  refine ⟨HM6.out.forget.forget.forget.forget, ?_⟩
                  clear HM5
                  change wpAnyH _ _ _ _ _ _ _ (Act.put _ (some 12) _) _
                  (try simp only [Act.put, List.setIfInBounds_toArray, List.set_cons_zero, List.set_cons_succ])
                  refine wpAnyH_all (rs := [12]) (by kernel_rfl) (by simp) ?_
                  intro i hi
                  obtain rfl := List.mem_singleton.1 hi
                  refine wpOp_of rfl rfl ?_
                  refine w_lay HM6 rfl rfl rfl .z .z aggRow.size (rcells_length _ _ _) (rcells_length _ _ _) (rcells_one _ _ _) rfl ?_
                  intro w6 HM7
                  refine ⟨HM7.out.forget.forget.forget.forget, ?_⟩
                  clear HM6
                  refine wpAnyH_all (rs := [13]) (by kernel_rfl) (by simp) ?_
                  intro i hi
                  obtain rfl := List.mem_singleton.1 hi
                  refine wpOp_of rfl rfl ?_
                  refine w_lay HM7 rfl rfl rfl (.s .z) (.s .z) aggRow.size (rcells_length _ _ _) (rcells_length _ _ _) (rcells_one _ _ _) rfl ?_
                  intro w7 HM8
                  refine ⟨HM8.out.forget.forget.forget.forget, ?_⟩
                  clear HM7
                  refine wpAnyH_done (by kernel_rfl) ?_ _
                  go_wp2_with fail
                  go_meet
                  exact ⟨ha, hb_, _, rfl, rfl, HM8, Lib.hid .z, Lib.hid (.s .z)⟩
              · refine wpOp_of rfl rfl ?_
                refine w_alloc HM3 rfl zeroRow ?_
                intro w3 ha HM4
                refine ⟨HM4.out.forget.forget.forget, ?_⟩
                clear HM3
                change wpAnyH _ _ _ _ _ _ _ (Act.put _ (some 12) _) _
                (try simp only [Act.put, List.setIfInBounds_toArray, List.set_cons_zero, List.set_cons_succ])
                refine wpAnyH_all (rs := [9, 11]) (by kernel_rfl) (by simp) ?_
                intro i hi
                simp only [List.mem_cons, List.not_mem_nil, or_false] at hi
                rcases hi with rfl | rfl
                · refine wpOp_of rfl rfl ?_
                  refine w_call (f := 15) (args := #[.slice (some ⟨gw, 0, none⟩) 16384 16384, .agg #[.int .u8 0, .int .u8 (r1 : Int), .int .u8 (r2 : Int), .int .u8 (r3 : Int), .int .u8 (r4 : Int), .int .u8 126, .int .u8 0, .int .u8 (r7 : Int), .int .u8 (r8 : Int), .int .u8 (r9 : Int), .int .u8 (r10 : Int)], .int .i64 40]) (fun w => rfl) (by go_simp) ?_
                  refine (line_z _ 16384 16384 yw r1 r2 r3 r4 r7 r8 r9 r10 40 H1.out H40.out H40'.out fb ob cb hfb hob hcb _ (HM4.out.byteRow (.s .z) HVw.out)).mono ?_
                  rintro e w4 ⟨rfl, hb⟩
                  have HM5 := Lib.hid (HM4.out.call hb)
                  refine ⟨_, rfl, HM5.out.forget.forget.forget, ?_⟩
                  clear hb HM4
                  change wpAnyH _ _ _ _ _ _ _ (Act.put _ (some 81) _) _
                  (try simp only [Act.put, List.setIfInBounds_toArray, List.set_cons_zero, List.set_cons_succ])
                  refine wpAnyH_all (rs := [11]) (by kernel_rfl) (by simp) ?_
                  intro i hi
                  obtain rfl := List.mem_singleton.1 hi
                  refine wpOp_of rfl rfl ?_
                  refine w_alloc HM5 rfl zeroRow ?_
                  intro w5 hb_ HM6
                  refine ⟨HM6.out.forget.forget.forget.forget, ?_⟩
                  clear HM5
                  change wpAnyH _ _ _ _ _ _ _ (Act.put _ (some 13) _) _
                  (try simp only [Act.put, List.setIfInBounds_toArray, List.set_cons_zero, List.set_cons_succ])
                  refine wpAnyH_all (rs := [12]) (by kernel_rfl) (by simp) ?_
                  intro i hi
                  obtain rfl := List.mem_singleton.1 hi
                  refine wpOp_of rfl rfl ?_
                  refine w_lay HM6 rfl rfl rfl (.s .z) (.s .z) aggRow.size (rcells_length _ _ _) (rcells_length _ _ _) (rcells_one _ _ _) rfl ?_
                  intro w6 HM7
                  refine ⟨HM7.out.forget.forget.forget.forget, ?_⟩
                  clear HM6
                  refine wpAnyH_all (rs := [13]) (by kernel_rfl) (by simp) ?_
                  intro i hi
                  obtain rfl := List.mem_singleton.1 hi
                  refine wpOp_of rfl rfl ?_
                  refine w_lay HM7 rfl rfl rfl .z .z aggRow.size (rcells_length _ _ _) (rcells_length _ _ _) (rcells_one _ _ _) rfl ?_
                  intro w7 HM8
                  refine ⟨HM8.out.forget.forget.forget.forget, ?_⟩
                  clear HM7
                  refine wpAnyH_done (by kernel_rfl) ?_ _
                  go_wp2_with fail
                  go_meet
                  exact ⟨ha, hb_, _, rfl, rfl, HM8, Lib.hid (.s .z), Lib.hid .z⟩
                · refine wpOp_of rfl rfl ?_
                  refine w_alloc HM4 rfl zeroRow ?_
                  intro w4 hb_ HM5
                  refine ⟨HM5.out.forget.forget.forget.forget, ?_⟩
                  clear HM4
                  change wpAnyH _ _ _ _ _ _ _ (Act.put _ (some 13) _) _
                  (try simp only [Act.put, List.setIfInBounds_toArray, List.set_cons_zero, List.set_cons_succ])
                  refine wpAnyH_all (rs := [9]) (by kernel_rfl) (by simp) ?_
                  intro i hi
                  obtain rfl := List.mem_singleton.1 hi
                  refine wpOp_of rfl rfl ?_
                  refine w_call (f := 15) (args := #[.slice (some ⟨gw, 0, none⟩) 16384 16384, .agg #[.int .u8 0, .int .u8 (r1 : Int), .int .u8 (r2 : Int), .int .u8 (r3 : Int), .int .u8 (r4 : Int), .int .u8 126, .int .u8 0, .int .u8 (r7 : Int), .int .u8 (r8 : Int), .int .u8 (r9 : Int), .int .u8 (r10 : Int)], .int .i64 40]) (fun w => rfl) (by go_simp) ?_
                  refine (line_z _ 16384 16384 yw r1 r2 r3 r4 r7 r8 r9 r10 40 H1.out H40.out H40'.out fb ob cb hfb hob hcb _ (HM5.out.byteRow (.s (.s .z)) HVw.out)).mono ?_
                  rintro e w5 ⟨rfl, hb⟩
                  have HM6 := Lib.hid (HM5.out.call hb)
                  refine ⟨_, rfl, HM6.out.forget.forget.forget.forget, ?_⟩
                  clear hb HM5
                  change wpAnyH _ _ _ _ _ _ _ (Act.put _ (some 81) _) _
                  (try simp only [Act.put, List.setIfInBounds_toArray, List.set_cons_zero, List.set_cons_succ])
                  refine wpAnyH_all (rs := [12]) (by kernel_rfl) (by simp) ?_
                  intro i hi
                  obtain rfl := List.mem_singleton.1 hi
                  refine wpOp_of rfl rfl ?_
                  refine w_lay HM6 rfl rfl rfl (.s .z) (.s .z) aggRow.size (rcells_length _ _ _) (rcells_length _ _ _) (rcells_one _ _ _) rfl ?_
                  intro w6 HM7
                  refine ⟨HM7.out.forget.forget.forget.forget, ?_⟩
                  clear HM6
                  refine wpAnyH_all (rs := [13]) (by kernel_rfl) (by simp) ?_
                  intro i hi
                  obtain rfl := List.mem_singleton.1 hi
                  refine wpOp_of rfl rfl ?_
                  refine w_lay HM7 rfl rfl rfl .z .z aggRow.size (rcells_length _ _ _) (rcells_length _ _ _) (rcells_one _ _ _) rfl ?_
                  intro w7 HM8
                  refine ⟨HM8.out.forget.forget.forget.forget, ?_⟩
                  clear HM7
                  refine wpAnyH_done (by kernel_rfl) ?_ _
                  go_wp2_with fail
                  go_meet
                  exact ⟨ha, hb_, _, rfl, rfl, HM8, Lib.hid (.s .z), Lib.hid .z⟩
              · refine wpOp_of rfl rfl ?_
                refine w_alloc HM3 rfl zeroRow ?_
                intro w3 hb_ HM4
                refine ⟨HM4.out.forget.forget.forget, ?_⟩
                clear HM3
                change wpAnyH _ _ _ _ _ _ _ (Act.put _ (some 13) _) _
                (try simp only [Act.put, List.setIfInBounds_toArray, List.set_cons_zero, List.set_cons_succ])
                refine wpAnyH_all (rs := [9, 10]) (by kernel_rfl) (by simp) ?_
                intro i hi
                simp only [List.mem_cons, List.not_mem_nil, or_false] at hi
                rcases hi with rfl | rfl
                · refine wpOp_of rfl rfl ?_
                  refine w_call (f := 15) (args := #[.slice (some ⟨gw, 0, none⟩) 16384 16384, .agg #[.int .u8 0, .int .u8 (r1 : Int), .int .u8 (r2 : Int), .int .u8 (r3 : Int), .int .u8 (r4 : Int), .int .u8 126, .int .u8 0, .int .u8 (r7 : Int), .int .u8 (r8 : Int), .int .u8 (r9 : Int), .int .u8 (r10 : Int)], .int .i64 40]) (fun w => rfl) (by go_simp) ?_
                  refine (line_z _ 16384 16384 yw r1 r2 r3 r4 r7 r8 r9 r10 40 H1.out H40.out H40'.out fb ob cb hfb hob hcb _ (HM4.out.byteRow (.s .z) HVw.out)).mono ?_
                  rintro e w4 ⟨rfl, hb⟩
                  have HM5 := Lib.hid (HM4.out.call hb)
                  refine ⟨_, rfl, HM5.out.forget.forget.forget, ?_⟩
                  clear hb HM4
                  change wpAnyH _ _ _ _ _ _ _ (Act.put _ (some 81) _) _
                  (try simp only [Act.put, List.setIfInBounds_toArray, List.set_cons_zero, List.set_cons_succ])
                  refine wpAnyH_all (rs := [10]) (by kernel_rfl) (by simp) ?_
                  intro i hi
                  obtain rfl := List.mem_singleton.1 hi
                  refine wpOp_of rfl rfl ?_
                  refine w_alloc HM5 rfl zeroRow ?_
                  intro w5 ha HM6
                  refine ⟨HM6.out.forget.forget.forget.forget, ?_⟩
                  clear HM5
                  change wpAnyH _ _ _ _ _ _ _ (Act.put _ (some 12) _) _
                  (try simp only [Act.put, List.setIfInBounds_toArray, List.set_cons_zero, List.set_cons_succ])
                  refine wpAnyH_all (rs := [12]) (by kernel_rfl) (by simp) ?_
                  intro i hi
                  obtain rfl := List.mem_singleton.1 hi
                  refine wpOp_of rfl rfl ?_
                  refine w_lay HM6 rfl rfl rfl .z .z aggRow.size (rcells_length _ _ _) (rcells_length _ _ _) (rcells_one _ _ _) rfl ?_
                  intro w6 HM7
                  refine ⟨HM7.out.forget.forget.forget.forget, ?_⟩
                  clear HM6
                  refine wpAnyH_all (rs := [13]) (by kernel_rfl) (by simp) ?_
                  intro i hi
                  obtain rfl := List.mem_singleton.1 hi
                  refine wpOp_of rfl rfl ?_
                  refine w_lay HM7 rfl rfl rfl (.s .z) (.s .z) aggRow.size (rcells_length _ _ _) (rcells_length _ _ _) (rcells_one _ _ _) rfl ?_
                  intro w7 HM8
                  refine ⟨HM8.out.forget.forget.forget.forget, ?_⟩
                  clear HM7
                  refine wpAnyH_done (by kernel_rfl) ?_ _
                  go_wp2_with fail
                  go_meet
                  exact ⟨ha, hb_, _, rfl, rfl, HM8, Lib.hid .z, Lib.hid (.s .z)⟩
                · refine wpOp_of rfl rfl ?_
                  refine w_alloc HM4 rfl zeroRow ?_
                  intro w4 ha HM5
                  refine ⟨HM5.out.forget.forget.forget.forget, ?_⟩
                  clear HM4
                  change wpAnyH _ _ _ _ _ _ _ (Act.put _ (some 12) _) _
                  (try simp only [Act.put, List.setIfInBounds_toArray, List.set_cons_zero, List.set_cons_succ])
                  refine wpAnyH_all (rs := [9]) (by kernel_rfl) (by simp) ?_
                  intro i hi
                  obtain rfl := List.mem_singleton.1 hi
                  refine wpOp_of rfl rfl ?_
                  refine w_call (f := 15) (args := #[.slice (some ⟨gw, 0, none⟩) 16384 16384, .agg #[.int .u8 0, .int .u8 (r1 : Int), .int .u8 (r2 : Int), .int .u8 (r3 : Int), .int .u8 (r4 : Int), .int .u8 126, .int .u8 0, .int .u8 (r7 : Int), .int .u8 (r8 : Int), .int .u8 (r9 : Int), .int .u8 (r10 : Int)], .int .i64 40]) (fun w => rfl) (by go_simp) ?_
                  refine (line_z _ 16384 16384 yw r1 r2 r3 r4 r7 r8 r9 r10 40 H1.out H40.out H40'.out fb ob cb hfb hob hcb _ (HM5.out.byteRow (.s (.s .z)) HVw.out)).mono ?_
                  rintro e w5 ⟨rfl, hb⟩
                  have HM6 := Lib.hid (HM5.out.call hb)
                  refine ⟨_, rfl, HM6.out.forget.forget.forget.forget, ?_⟩
                  clear hb HM5
                  change wpAnyH _ _ _ _ _ _ _ (Act.put _ (some 81) _) _
                  (try simp only [Act.put, List.setIfInBounds_toArray, List.set_cons_zero, List.set_cons_succ])
                  refine wpAnyH_all (rs := [12]) (by kernel_rfl) (by simp) ?_
                  intro i hi
                  obtain rfl := List.mem_singleton.1 hi
                  refine wpOp_of rfl rfl ?_
                  refine w_lay HM6 rfl rfl rfl .z .z aggRow.size (rcells_length _ _ _) (rcells_length _ _ _) (rcells_one _ _ _) rfl ?_
                  intro w6 HM7
                  refine ⟨HM7.out.forget.forget.forget.forget, ?_⟩
                  clear HM6
                  refine wpAnyH_all (rs := [13]) (by kernel_rfl) (by simp) ?_
                  intro i hi
                  obtain rfl := List.mem_singleton.1 hi
                  refine wpOp_of rfl rfl ?_
                  refine w_lay HM7 rfl rfl rfl (.s .z) (.s .z) aggRow.size (rcells_length _ _ _) (rcells_length _ _ _) (rcells_one _ _ _) rfl ?_
                  intro w7 HM8
                  refine ⟨HM8.out.forget.forget.forget.forget, ?_⟩
                  clear HM7
                  refine wpAnyH_done (by kernel_rfl) ?_ _
                  go_wp2_with fail
                  go_meet
                  exact ⟨ha, hb_, _, rfl, rfl, HM8, Lib.hid .z, Lib.hid (.s .z)⟩
            · refine wpOp_of rfl rfl ?_
              refine w_alloc HM2 rfl zeroRow ?_
              intro w2 ha HM3
              refine ⟨HM3.out.forget.forget, ?_⟩
              clear HM2
              change wpAnyH _ _ _ _ _ _ _ (Act.put _ (some 12) _) _
              (try simp only [Act.put, List.setIfInBounds_toArray, List.set_cons_zero, List.set_cons_succ])
              refine wpAnyH_all (rs := [7, 11]) (by kernel_rfl) (by simp) ?_
              intro i hi
              simp only [List.mem_cons, List.not_mem_nil, or_false] at hi
              rcases hi with rfl | rfl
              · refine wpOp_of rfl rfl ?_
                refine w_call (f := 12) (args := #[.agg #[.slice q j cq, .slice a2 n2 c2], .agg #[.int .u8 0, .int .u8 (r1 : Int), .int .u8 (r2 : Int), .int .u8 (r3 : Int), .int .u8 (r4 : Int), .int .u8 126, .int .u8 0, .int .u8 (r7 : Int), .int .u8 (r8 : Int), .int .u8 (r9 : Int), .int .u8 (r10 : Int)]]) (fun w => rfl) (by go_simp) ?_
                refine (build_z q a2 j cq n2 c2 (mvB sp nb) tl r1 r2 r3 r4 r7 r8 r9 r10 _ (tri_now HR2.out (Own.rows2 (l := [_, _, _, _, _, _]) HM3.out) HSB1.out) (HT2.out.under (Own.fin HM3)) HC64.out L2.out yw HYW).mono ?_
                rintro e w3 ⟨gw, rfl, hg, hW, hb⟩
                have HM4 := Lib.hid (HM3.out.plus hb hg hW)
                refine ⟨_, rfl, HM4.out.forget.forget.forget, ?_⟩
                clear hg hW hb HM3
                change wpAnyH _ _ _ _ _ _ _ (Act.put _ (some 79) _) _
                (try simp only [Act.put, List.setIfInBounds_toArray, List.set_cons_zero, List.set_cons_succ])
                refine wpAnyH_all (rs := [9, 11]) (by kernel_rfl) (by simp) ?_
                intro i hi
                simp only [List.mem_cons, List.not_mem_nil, or_false] at hi
                rcases hi with rfl | rfl
                · refine wpOp_of rfl rfl ?_
                  refine w_call (f := 15) (args := #[.slice (some ⟨gw, 0, none⟩) 16384 16384, .agg #[.int .u8 0, .int .u8 (r1 : Int), .int .u8 (r2 : Int), .int .u8 (r3 : Int), .int .u8 (r4 : Int), .int .u8 126, .int .u8 0, .int .u8 (r7 : Int), .int .u8 (r8 : Int), .int .u8 (r9 : Int), .int .u8 (r10 : Int)], .int .i64 40]) (fun w => rfl) (by go_simp) ?_
                  refine (line_z _ 16384 16384 yw r1 r2 r3 r4 r7 r8 r9 r10 40 H1.out H40.out H40'.out fb ob cb hfb hob hcb _ (HM4.out.byteRow .z HVw.out)).mono ?_
                  rintro e w4 ⟨rfl, hb⟩
                  have HM5 := Lib.hid (HM4.out.call hb)
                  refine ⟨_, rfl, HM5.out.forget.forget.forget, ?_⟩
                  clear hb HM4
                  change wpAnyH _ _ _ _ _ _ _ (Act.put _ (some 81) _) _
                  (try simp only [Act.put, List.setIfInBounds_toArray, List.set_cons_zero, List.set_cons_succ])
                  refine wpAnyH_all (rs := [11]) (by kernel_rfl) (by simp) ?_
                  intro i hi
                  obtain rfl := List.mem_singleton.1 hi
                  refine wpOp_of rfl rfl ?_
                  refine w_alloc HM5 rfl zeroRow ?_
                  intro w5 hb_ HM6
                  refine ⟨HM6.out.forget.forget.forget.forget, ?_⟩
                  clear HM5
                  change wpAnyH _ _ _ _ _ _ _ (Act.put _ (some 13) _) _
                  (try simp only [Act.put, List.setIfInBounds_toArray, List.set_cons_zero, List.set_cons_succ])
                  refine wpAnyH_all (rs := [12]) (by kernel_rfl) (by simp) ?_
                  intro i hi
                  obtain rfl := List.mem_singleton.1 hi
                  refine wpOp_of rfl rfl ?_
                  refine w_lay HM6 rfl rfl rfl (.s (.s .z)) (.s (.s .z)) aggRow.size (rcells_length _ _ _) (rcells_length _ _ _) (rcells_one _ _ _) rfl ?_
                  intro w6 HM7
                  refine ⟨HM7.out.forget.forget.forget.forget, ?_⟩
                  clear HM6
                  refine wpAnyH_all (rs := [13]) (by kernel_rfl) (by simp) ?_
                  intro i hi
                  obtain rfl := List.mem_singleton.1 hi
                  refine wpOp_of rfl rfl ?_
                  refine w_lay HM7 rfl rfl rfl .z .z aggRow.size (rcells_length _ _ _) (rcells_length _ _ _) (rcells_one _ _ _) rfl ?_
                  intro w7 HM8
                  refine ⟨HM8.out.forget.forget.forget.forget, ?_⟩
                  clear HM7
                  refine wpAnyH_done (by kernel_rfl) ?_ _
                  go_wp2_with fail
                  go_meet
                  exact ⟨ha, hb_, _, rfl, rfl, HM8, Lib.hid (.s (.s .z)), Lib.hid .z⟩
                · refine wpOp_of rfl rfl ?_
                  refine w_alloc HM4 rfl zeroRow ?_
                  intro w4 hb_ HM5
                  refine ⟨HM5.out.forget.forget.forget.forget, ?_⟩
                  clear HM4
                  change wpAnyH _ _ _ _ _ _ _ (Act.put _ (some 13) _) _
                  (try simp only [Act.put, List.setIfInBounds_toArray, List.set_cons_zero, List.set_cons_succ])
                  refine wpAnyH_all (rs := [9]) (by kernel_rfl) (by simp) ?_
                  intro i hi
                  obtain rfl := List.mem_singleton.1 hi
                  refine wpOp_of rfl rfl ?_
                  refine w_call (f := 15) (args := #[.slice (some ⟨gw, 0, none⟩) 16384 16384, .agg #[.int .u8 0, .int .u8 (r1 : Int), .int .u8 (r2 : Int), .int .u8 (r3 : Int), .int .u8 (r4 : Int), .int .u8 126, .int .u8 0, .int .u8 (r7 : Int), .int .u8 (r8 : Int), .int .u8 (r9 : Int), .int .u8 (r10 : Int)], .int .i64 40]) (fun w => rfl) (by go_simp) ?_
                  refine (line_z _ 16384 16384 yw r1 r2 r3 r4 r7 r8 r9 r10 40 H1.out H40.out H40'.out fb ob cb hfb hob hcb _ (HM5.out.byteRow (.s .z) HVw.out)).mono ?_
                  rintro e w5 ⟨rfl, hb⟩
                  have HM6 := Lib.hid (HM5.out.call hb)
                  refine ⟨_, rfl, HM6.out.forget.forget.forget.forget, ?_⟩
                  clear hb HM5
                  change wpAnyH _ _ _ _ _ _ _ (Act.put _ (some 81) _) _
                  (try simp only [Act.put, List.setIfInBounds_toArray, List.set_cons_zero, List.set_cons_succ])
                  refine wpAnyH_all (rs := [12]) (by kernel_rfl) (by simp) ?_
                  intro i hi
                  obtain rfl := List.mem_singleton.1 hi
                  refine wpOp_of rfl rfl ?_
                  refine w_lay HM6 rfl rfl rfl (.s (.s .z)) (.s (.s .z)) aggRow.size (rcells_length _ _ _) (rcells_length _ _ _) (rcells_one _ _ _) rfl ?_
                  intro w6 HM7
                  refine ⟨HM7.out.forget.forget.forget.forget, ?_⟩
                  clear HM6
                  refine wpAnyH_all (rs := [13]) (by kernel_rfl) (by simp) ?_
                  intro i hi
                  obtain rfl := List.mem_singleton.1 hi
                  refine wpOp_of rfl rfl ?_
                  refine w_lay HM7 rfl rfl rfl .z .z aggRow.size (rcells_length _ _ _) (rcells_length _ _ _) (rcells_one _ _ _) rfl ?_
                  intro w7 HM8
                  refine ⟨HM8.out.forget.forget.forget.forget, ?_⟩
                  clear HM7
                  refine wpAnyH_done (by kernel_rfl) ?_ _
                  go_wp2_with fail
                  go_meet
                  exact ⟨ha, hb_, _, rfl, rfl, HM8, Lib.hid (.s (.s .z)), Lib.hid .z⟩
              · refine wpOp_of rfl rfl ?_
                refine w_alloc HM3 rfl zeroRow ?_
                intro w3 hb_ HM4
                refine ⟨HM4.out.forget.forget.forget, ?_⟩
                clear HM3
                change wpAnyH _ _ _ _ _ _ _ (Act.put _ (some 13) _) _
                (try simp only [Act.put, List.setIfInBounds_toArray, List.set_cons_zero, List.set_cons_succ])
                refine wpAnyH_all (rs := [7]) (by kernel_rfl) (by simp) ?_
                intro i hi
                obtain rfl := List.mem_singleton.1 hi
                refine wpOp_of rfl rfl ?_
                refine w_call (f := 12) (args := #[.agg #[.slice q j cq, .slice a2 n2 c2], .agg #[.int .u8 0, .int .u8 (r1 : Int), .int .u8 (r2 : Int), .int .u8 (r3 : Int), .int .u8 (r4 : Int), .int .u8 126, .int .u8 0, .int .u8 (r7 : Int), .int .u8 (r8 : Int), .int .u8 (r9 : Int), .int .u8 (r10 : Int)]]) (fun w => rfl) (by go_simp) ?_
                refine (build_z q a2 j cq n2 c2 (mvB sp nb) tl r1 r2 r3 r4 r7 r8 r9 r10 _ (tri_now HR2.out (Own.rows2 (l := [_, _, _, _, _, _, _]) HM4.out) HSB1.out) (HT2.out.under (Own.fin HM4)) HC64.out L2.out yw HYW).mono ?_
                rintro e w4 ⟨gw, rfl, hg, hW, hb⟩
                have HM5 := Lib.hid (HM4.out.plus hb hg hW)
                refine ⟨_, rfl, HM5.out.forget.forget.forget.forget, ?_⟩
                clear hg hW hb HM4
                change wpAnyH _ _ _ _ _ _ _ (Act.put _ (some 79) _) _
                (try simp only [Act.put, List.setIfInBounds_toArray, List.set_cons_zero, List.set_cons_succ])
                refine wpAnyH_all (rs := [9]) (by kernel_rfl) (by simp) ?_
                intro i hi
                obtain rfl := List.mem_singleton.1 hi
                refine wpOp_of rfl rfl ?_
                refine w_call (f := 15) (args := #[.slice (some ⟨gw, 0, none⟩) 16384 16384, .agg #[.int .u8 0, .int .u8 (r1 : Int), .int .u8 (r2 : Int), .int .u8 (r3 : Int), .int .u8 (r4 : Int), .int .u8 126, .int .u8 0, .int .u8 (r7 : Int), .int .u8 (r8 : Int), .int .u8 (r9 : Int), .int .u8 (r10 : Int)], .int .i64 40]) (fun w => rfl) (by go_simp) ?_
                refine (line_z _ 16384 16384 yw r1 r2 r3 r4 r7 r8 r9 r10 40 H1.out H40.out H40'.out fb ob cb hfb hob hcb _ (HM5.out.byteRow .z HVw.out)).mono ?_
                rintro e w5 ⟨rfl, hb⟩
                have HM6 := Lib.hid (HM5.out.call hb)
                refine ⟨_, rfl, HM6.out.forget.forget.forget.forget, ?_⟩
                clear hb HM5
                change wpAnyH _ _ _ _ _ _ _ (Act.put _ (some 81) _) _
                (try simp only [Act.put, List.setIfInBounds_toArray, List.set_cons_zero, List.set_cons_succ])
                refine wpAnyH_all (rs := [12]) (by kernel_rfl) (by simp) ?_
                intro i hi
                obtain rfl := List.mem_singleton.1 hi
                refine wpOp_of rfl rfl ?_
                refine w_lay HM6 rfl rfl rfl (.s (.s .z)) (.s (.s .z)) aggRow.size (rcells_length _ _ _) (rcells_length _ _ _) (rcells_one _ _ _) rfl ?_
                intro w6 HM7
                refine ⟨HM7.out.forget.forget.forget.forget, ?_⟩
                clear HM6
                refine wpAnyH_all (rs := [13]) (by kernel_rfl) (by simp) ?_
                intro i hi
                obtain rfl := List.mem_singleton.1 hi
                refine wpOp_of rfl rfl ?_
                refine w_lay HM7 rfl rfl rfl (.s .z) (.s .z) aggRow.size (rcells_length _ _ _) (rcells_length _ _ _) (rcells_one _ _ _) rfl ?_
                intro w7 HM8
                refine ⟨HM8.out.forget.forget.forget.forget, ?_⟩
                clear HM7
                refine wpAnyH_done (by kernel_rfl) ?_ _
                go_wp2_with fail
                go_meet
                exact ⟨ha, hb_, _, rfl, rfl, HM8, Lib.hid (.s (.s .z)), Lib.hid (.s .z)⟩
            · refine wpOp_of rfl rfl ?_
              refine w_alloc HM2 rfl zeroRow ?_
              intro w2 hb_ HM3
              refine ⟨HM3.out.forget.forget, ?_⟩
              clear HM2
              change wpAnyH _ _ _ _ _ _ _ (Act.put _ (some 13) _) _
              (try simp only [Act.put, List.setIfInBounds_toArray, List.set_cons_zero, List.set_cons_succ])
              refine wpAnyH_all (rs := [7, 10]) (by kernel_rfl) (by simp) ?_
              intro i hi
              simp only [List.mem_cons, List.not_mem_nil, or_false] at hi
              rcases hi with rfl | rfl
              · refine wpOp_of rfl rfl ?_
                refine w_call (f := 12) (args := #[.agg #[.slice q j cq, .slice a2 n2 c2], .agg #[.int .u8 0, .int .u8 (r1 : Int), .int .u8 (r2 : Int), .int .u8 (r3 : Int), .int .u8 (r4 : Int), .int .u8 126, .int .u8 0, .int .u8 (r7 : Int), .int .u8 (r8 : Int), .int .u8 (r9 : Int), .int .u8 (r10 : Int)]]) (fun w => rfl) (by go_simp) ?_
                refine (build_z q a2 j cq n2 c2 (mvB sp nb) tl r1 r2 r3 r4 r7 r8 r9 r10 _ (tri_now HR2.out (Own.rows2 (l := [_, _, _, _, _, _]) HM3.out) HSB1.out) (HT2.out.under (Own.fin HM3)) HC64.out L2.out yw HYW).mono ?_
                rintro e w3 ⟨gw, rfl, hg, hW, hb⟩
                have HM4 := Lib.hid (HM3.out.plus hb hg hW)
                refine ⟨_, rfl, HM4.out.forget.forget.forget, ?_⟩
                clear hg hW hb HM3
                change wpAnyH _ _ _ _ _ _ _ (Act.put _ (some 79) _) _
                (try simp only [Act.put, List.setIfInBounds_toArray, List.set_cons_zero, List.set_cons_succ])
                refine wpAnyH_all (rs := [9, 10]) (by kernel_rfl) (by simp) ?_
                intro i hi
                simp only [List.mem_cons, List.not_mem_nil, or_false] at hi
                rcases hi with rfl | rfl
                · refine wpOp_of rfl rfl ?_
                  refine w_call (f := 15) (args := #[.slice (some ⟨gw, 0, none⟩) 16384 16384, .agg #[.int .u8 0, .int .u8 (r1 : Int), .int .u8 (r2 : Int), .int .u8 (r3 : Int), .int .u8 (r4 : Int), .int .u8 126, .int .u8 0, .int .u8 (r7 : Int), .int .u8 (r8 : Int), .int .u8 (r9 : Int), .int .u8 (r10 : Int)], .int .i64 40]) (fun w => rfl) (by go_simp) ?_
                  refine (line_z _ 16384 16384 yw r1 r2 r3 r4 r7 r8 r9 r10 40 H1.out H40.out H40'.out fb ob cb hfb hob hcb _ (HM4.out.byteRow .z HVw.out)).mono ?_
                  rintro e w4 ⟨rfl, hb⟩
                  have HM5 := Lib.hid (HM4.out.call hb)
                  refine ⟨_, rfl, HM5.out.forget.forget.forget, ?_⟩
                  clear hb HM4
                  change wpAnyH _ _ _ _ _ _ _ (Act.put _ (some 81) _) _
                  (try simp only [Act.put, List.setIfInBounds_toArray, List.set_cons_zero, List.set_cons_succ])
                  refine wpAnyH_all (rs := [10]) (by kernel_rfl) (by simp) ?_
                  intro i hi
                  obtain rfl := List.mem_singleton.1 hi
                  refine wpOp_of rfl rfl ?_
                  refine w_alloc HM5 rfl zeroRow ?_
                  intro w5 ha HM6
                  refine ⟨HM6.out.forget.forget.forget.forget, ?_⟩
                  clear HM5
                  change wpAnyH _ _ _ _ _ _ _ (Act.put _ (some 12) _) _
                  (try simp only [Act.put, List.setIfInBounds_toArray, List.set_cons_zero, List.set_cons_succ])
                  refine wpAnyH_all (rs := [12]) (by kernel_rfl) (by simp) ?_
                  intro i hi
                  obtain rfl := List.mem_singleton.1 hi
                  refine wpOp_of rfl rfl ?_
                  refine w_lay HM6 rfl rfl rfl .z .z aggRow.size (rcells_length _ _ _) (rcells_length _ _ _) (rcells_one _ _ _) rfl ?_
                  intro w6 HM7
                  refine ⟨HM7.out.forget.forget.forget.forget, ?_⟩
                  clear HM6
                  refine wpAnyH_all (rs := [13]) (by kernel_rfl) (by simp) ?_
                  intro i hi
                  obtain rfl := List.mem_singleton.1 hi
                  refine wpOp_of rfl rfl ?_
                  refine w_lay HM7 rfl rfl rfl (.s (.s .z)) (.s (.s .z)) aggRow.size (rcells_length _ _ _) (rcells_length _ _ _) (rcells_one _ _ _) rfl ?_
                  intro w7 HM8
                  refine ⟨HM8.out.forget.forget.forget.forget, ?_⟩
                  clear HM7
                  refine wpAnyH_done (by kernel_rfl) ?_ _
                  go_wp2_with fail
                  go_meet
                  exact ⟨ha, hb_, _, rfl, rfl, HM8, Lib.hid .z, Lib.hid (.s (.s .z))⟩
                · refine wpOp_of rfl rfl ?_
                  refine w_alloc HM4 rfl zeroRow ?_
                  intro w4 ha HM5
                  refine ⟨HM5.out.forget.forget.forget.forget, ?_⟩
                  clear HM4
                  change wpAnyH _ _ _ _ _ _ _ (Act.put _ (some 12) _) _
                  (try simp only [Act.put, List.setIfInBounds_toArray, List.set_cons_zero, List.set_cons_succ])
                  refine wpAnyH_all (rs := [9]) (by kernel_rfl) (by simp) ?_
                  intro i hi
                  obtain rfl := List.mem_singleton.1 hi
                  refine wpOp_of rfl rfl ?_
                  refine w_call (f := 15) (args := #[.slice (some ⟨gw, 0, none⟩) 16384 16384, .agg #[.int .u8 0, .int .u8 (r1 : Int), .int .u8 (r2 : Int), .int .u8 (r3 : Int), .int .u8 (r4 : Int), .int .u8 126, .int .u8 0, .int .u8 (r7 : Int), .int .u8 (r8 : Int), .int .u8 (r9 : Int), .int .u8 (r10 : Int)], .int .i64 40]) (fun w => rfl) (by go_simp) ?_
                  refine (line_z _ 16384 16384 yw r1 r2 r3 r4 r7 r8 r9 r10 40 H1.out H40.out H40'.out fb ob cb hfb hob hcb _ (HM5.out.byteRow (.s .z) HVw.out)).mono ?_
                  rintro e w5 ⟨rfl, hb⟩
                  have HM6 := Lib.hid (HM5.out.call hb)
                  refine ⟨_, rfl, HM6.out.forget.forget.forget.forget, ?_⟩
                  clear hb HM5
                  change wpAnyH _ _ _ _ _ _ _ (Act.put _ (some 81) _) _
                  (try simp only [Act.put, List.setIfInBounds_toArray, List.set_cons_zero, List.set_cons_succ])
                  refine wpAnyH_all (rs := [12]) (by kernel_rfl) (by simp) ?_
                  intro i hi
                  obtain rfl := List.mem_singleton.1 hi
                  refine wpOp_of rfl rfl ?_
                  refine w_lay HM6 rfl rfl rfl .z .z aggRow.size (rcells_length _ _ _) (rcells_length _ _ _) (rcells_one _ _ _) rfl ?_
                  intro w6 HM7
                  refine ⟨HM7.out.forget.forget.forget.forget, ?_⟩
                  clear HM6
                  refine wpAnyH_all (rs := [13]) (by kernel_rfl) (by simp) ?_
                  intro i hi
                  obtain rfl := List.mem_singleton.1 hi
                  refine wpOp_of rfl rfl ?_
                  refine w_lay HM7 rfl rfl rfl (.s (.s .z)) (.s (.s .z)) aggRow.size (rcells_length _ _ _) (rcells_length _ _ _) (rcells_one _ _ _) rfl ?_
                  intro w7 HM8
                  refine ⟨HM8.out.forget.forget.forget.forget, ?_⟩
                  clear HM7
                  refine wpAnyH_done (by kernel_rfl) ?_ _
                  go_wp2_with fail
                  go_meet
                  exact ⟨ha, hb_, _, rfl, rfl, HM8, Lib.hid .z, Lib.hid (.s (.s .z))⟩
              · refine wpOp_of rfl rfl ?_
                refine w_alloc HM3 rfl zeroRow ?_
                intro w3 ha HM4
                refine ⟨HM4.out.forget.forget.forget, ?_⟩
                clear HM3
                change wpAnyH _ _ _ _ _ _ _ (Act.put _ (some 12) _) _
                (try simp only [Act.put, List.setIfInBounds_toArray, List.set_cons_zero, List.set_cons_succ])
                refine wpAnyH_all (rs := [7]) (by kernel_rfl) (by simp) ?_
                intro i hi
                obtain rfl := List.mem_singleton.1 hi
                refine wpOp_of rfl rfl ?_
                refine w_call (f := 12) (args := #[.agg #[.slice q j cq, .slice a2 n2 c2], .agg #[.int .u8 0, .int .u8 (r1 : Int), .int .u8 (r2 : Int), .int .u8 (r3 : Int), .int .u8 (r4 : Int), .int .u8 126, .int .u8 0, .int .u8 (r7 : Int), .int .u8 (r8 : Int), .int .u8 (r9 : Int), .int .u8 (r10 : Int)]]) (fun w => rfl) (by go_simp) ?_
                refine (build_z q a2 j cq n2 c2 (mvB sp nb) tl r1 r2 r3 r4 r7 r8 r9 r10 _ (tri_now HR2.out (Own.rows2 (l := [_, _, _, _, _, _, _]) HM4.out) HSB1.out) (HT2.out.under (Own.fin HM4)) HC64.out L2.out yw HYW).mono ?_
                rintro e w4 ⟨gw, rfl, hg, hW, hb⟩
                have HM5 := Lib.hid (HM4.out.plus hb hg hW)
                refine ⟨_, rfl, HM5.out.forget.forget.forget.forget, ?_⟩
                clear hg hW hb HM4
                change wpAnyH _ _ _ _ _ _ _ (Act.put _ (some 79) _) _
                (try simp only [Act.put, List.setIfInBounds_toArray, List.set_cons_zero, List.set_cons_succ])
                refine wpAnyH_all (rs := [9]) (by kernel_rfl) (by simp) ?_
                intro i hi
                obtain rfl := List.mem_singleton.1 hi
                refine wpOp_of rfl rfl ?_
                refine w_call (f := 15) (args := #[.slice (some ⟨gw, 0, none⟩) 16384 16384, .agg #[.int .u8 0, .int .u8 (r1 : Int), .int .u8 (r2 : Int), .int .u8 (r3 : Int), .int .u8 (r4 : Int), .int .u8 126, .int .u8 0, .int .u8 (r7 : Int), .int .u8 (r8 : Int), .int .u8 (r9 : Int), .int .u8 (r10 : Int)], .int .i64 40]) (fun w => rfl) (by go_simp) ?_
                refine (line_z _ 16384 16384 yw r1 r2 r3 r4 r7 r8 r9 r10 40 H1.out H40.out H40'.out fb ob cb hfb hob hcb _ (HM5.out.byteRow .z HVw.out)).mono ?_
                rintro e w5 ⟨rfl, hb⟩
                have HM6 := Lib.hid (HM5.out.call hb)
                refine ⟨_, rfl, HM6.out.forget.forget.forget.forget, ?_⟩
                clear hb HM5
                change wpAnyH _ _ _ _ _ _ _ (Act.put _ (some 81) _) _
                (try simp only [Act.put, List.setIfInBounds_toArray, List.set_cons_zero, List.set_cons_succ])
                refine wpAnyH_all (rs := [12]) (by kernel_rfl) (by simp) ?_
                intro i hi
                obtain rfl := List.mem_singleton.1 hi
                refine wpOp_of rfl rfl ?_
                refine w_lay HM6 rfl rfl rfl (.s .z) (.s .z) aggRow.size (rcells_length _ _ _) (rcells_length _ _ _) (rcells_one _ _ _) rfl ?_
                intro w6 HM7
                refine ⟨HM7.out.forget.forget.forget.forget, ?_⟩
                clear HM6
                refine wpAnyH_all (rs := [13]) (by kernel_rfl) (by simp) ?_
                intro i hi
                obtain rfl := List.mem_singleton.1 hi
                refine wpOp_of rfl rfl ?_
                refine w_lay HM7 rfl rfl rfl (.s (.s .z)) (.s (.s .z)) aggRow.size (rcells_length _ _ _) (rcells_length _ _ _) (rcells_one _ _ _) rfl ?_
                intro w7 HM8
                refine ⟨HM8.out.forget.forget.forget.forget, ?_⟩
                clear HM7
                refine wpAnyH_done (by kernel_rfl) ?_ _
                go_wp2_with fail
                go_meet
                exact ⟨ha, hb_, _, rfl, rfl, HM8, Lib.hid (.s .z), Lib.hid (.s (.s .z))⟩
          · refine wpOp_of rfl rfl ?_
            refine w_alloc HM1 rfl zeroRow ?_
            intro w1 ha HM2
            refine ⟨HM2.out.forget.forget, ?_⟩
            clear HM1
            change wpAnyH _ _ _ _ _ _ _ (Act.put _ (some 12) _) _
            (try simp only [Act.put, List.setIfInBounds_toArray, List.set_cons_zero, List.set_cons_succ])
            refine wpAnyH_all (rs := [4, 11]) (by kernel_rfl) (by simp) ?_
            intro i hi
            simp only [List.mem_cons, List.not_mem_nil, or_false] at hi
            rcases hi with rfl | rfl
            · refine wpOp_of rfl rfl ?_
              refine w_call (f := 15) (args := #[.slice (some ⟨gv, 0, none⟩) 16384 16384, .agg #[.int .u8 0, .int .u8 (r1 : Int), .int .u8 (r2 : Int), .int .u8 (r3 : Int), .int .u8 (r4 : Int), .int .u8 126, .int .u8 0, .int .u8 (r7 : Int), .int .u8 (r8 : Int), .int .u8 (r9 : Int), .int .u8 (r10 : Int)], .int .i64 40]) (fun w => rfl) (by go_simp) ?_
              refine (line_z _ 16384 16384 yv r1 r2 r3 r4 r7 r8 r9 r10 40 H1.out H40.out H40'.out fa ob cb hfa hoa hca _ (HM2.out.byteRow (.s .z) HVv.out)).mono ?_
              rintro e w2 ⟨rfl, hb⟩
              have HM3 := Lib.hid (HM2.out.call hb)
              refine ⟨_, rfl, HM3.out.forget.forget, ?_⟩
              clear hb HM2
              change wpAnyH _ _ _ _ _ _ _ (Act.put _ (some 76) _) _
              (try simp only [Act.put, List.setIfInBounds_toArray, List.set_cons_zero, List.set_cons_succ])
              refine wpAnyH_all (rs := [7, 11]) (by kernel_rfl) (by simp) ?_
              intro i hi
              simp only [List.mem_cons, List.not_mem_nil, or_false] at hi
              rcases hi with rfl | rfl
              · refine wpOp_of rfl rfl ?_
                refine w_call (f := 12) (args := #[.agg #[.slice q j cq, .slice a2 n2 c2], .agg #[.int .u8 0, .int .u8 (r1 : Int), .int .u8 (r2 : Int), .int .u8 (r3 : Int), .int .u8 (r4 : Int), .int .u8 126, .int .u8 0, .int .u8 (r7 : Int), .int .u8 (r8 : Int), .int .u8 (r9 : Int), .int .u8 (r10 : Int)]]) (fun w => rfl) (by go_simp) ?_
                refine (build_z q a2 j cq n2 c2 (mvB sp nb) tl r1 r2 r3 r4 r7 r8 r9 r10 _ (tri_now HR2.out (Own.rows2 (l := [_, _, _, _, _, _]) HM3.out) HSB1.out) (HT2.out.under (Own.fin HM3)) HC64.out L2.out yw HYW).mono ?_
                rintro e w3 ⟨gw, rfl, hg, hW, hb⟩
                have HM4 := Lib.hid (HM3.out.plus hb hg hW)
                refine ⟨_, rfl, HM4.out.forget.forget.forget, ?_⟩
                clear hg hW hb HM3
                change wpAnyH _ _ _ _ _ _ _ (Act.put _ (some 79) _) _
                (try simp only [Act.put, List.setIfInBounds_toArray, List.set_cons_zero, List.set_cons_succ])
                refine wpAnyH_all (rs := [9, 11]) (by kernel_rfl) (by simp) ?_
                intro i hi
                simp only [List.mem_cons, List.not_mem_nil, or_false] at hi
                rcases hi with rfl | rfl
                · refine wpOp_of rfl rfl ?_
                  refine w_call (f := 15) (args := #[.slice (some ⟨gw, 0, none⟩) 16384 16384, .agg #[.int .u8 0, .int .u8 (r1 : Int), .int .u8 (r2 : Int), .int .u8 (r3 : Int), .int .u8 (r4 : Int), .int .u8 126, .int .u8 0, .int .u8 (r7 : Int), .int .u8 (r8 : Int), .int .u8 (r9 : Int), .int .u8 (r10 : Int)], .int .i64 40]) (fun w => rfl) (by go_simp) ?_
                  refine (line_z _ 16384 16384 yw r1 r2 r3 r4 r7 r8 r9 r10 40 H1.out H40.out H40'.out fb ob cb hfb hob hcb _ (HM4.out.byteRow .z HVw.out)).mono ?_
                  rintro e w4 ⟨rfl, hb⟩
                  have HM5 := Lib.hid (HM4.out.call hb)
                  refine ⟨_, rfl, HM5.out.forget.forget.forget, ?_⟩
                  clear hb HM4
                  change wpAnyH _ _ _ _ _ _ _ (Act.put _ (some 81) _) _
                  (try simp only [Act.put, List.setIfInBounds_toArray, List.set_cons_zero, List.set_cons_succ])
                  refine wpAnyH_all (rs := [11]) (by kernel_rfl) (by simp) ?_
                  intro i hi
                  obtain rfl := List.mem_singleton.1 hi
                  refine wpOp_of rfl rfl ?_
                  refine w_alloc HM5 rfl zeroRow ?_
                  intro w5 hb_ HM6
                  refine ⟨HM6.out.forget.forget.forget.forget, ?_⟩
                  clear HM5
                  change wpAnyH _ _ _ _ _ _ _ (Act.put _ (some 13) _) _
                  (try simp only [Act.put, List.setIfInBounds_toArray, List.set_cons_zero, List.set_cons_succ])
                  refine wpAnyH_all (rs := [12]) (by kernel_rfl) (by simp) ?_
                  intro i hi
                  obtain rfl := List.mem_singleton.1 hi
                  refine wpOp_of rfl rfl ?_
                  refine w_lay HM6 rfl rfl rfl (.s (.s .z)) (.s (.s .z)) aggRow.size (rcells_length _ _ _) (rcells_length _ _ _) (rcells_one _ _ _) rfl ?_
                  intro w6 HM7
                  refine ⟨HM7.out.forget.forget.forget.forget, ?_⟩
                  clear HM6
                  refine wpAnyH_all (rs := [13]) (by kernel_rfl) (by simp) ?_
                  intro i hi
                  obtain rfl := List.mem_singleton.1 hi
                  refine wpOp_of rfl rfl ?_
                  refine w_lay HM7 rfl rfl rfl .z .z aggRow.size (rcells_length _ _ _) (rcells_length _ _ _) (rcells_one _ _ _) rfl ?_
                  intro w7 HM8
                  refine ⟨HM8.out.forget.forget.forget.forget, ?_⟩
                  clear HM7
                  refine wpAnyH_done (by kernel_rfl) ?_ _
                  go_wp2_with fail
                  go_meet
                  exact ⟨ha, hb_, _, rfl, rfl, HM8, Lib.hid (.s (.s .z)), Lib.hid .z⟩
                · refine wpOp_of rfl rfl ?_
                  refine w_alloc HM4 rfl zeroRow ?_
                  intro w4 hb_ HM5
                  refine ⟨HM5.out.forget.forget.forget.forget, ?_⟩
                  clear HM4
                  change wpAnyH _ _ _ _ _ _ _ (Act.put _ (some 13) _) _
                  (try simp only [Act.put, List.setIfInBounds_toArray, List.set_cons_zero, List.set_cons_succ])
                  refine wpAnyH_all (rs := [9]) (by kernel_rfl) (by simp) ?_
                  intro i hi
                  obtain rfl := List.mem_singleton.1 hi
                  refine wpOp_of rfl rfl ?_
                  refine w_call (f := 15) (args := #[.slice (some ⟨gw, 0, none⟩) 16384 16384, .agg #[.int .u8 0, .int .u8 (r1 : Int), .int .u8 (r2 : Int), .int .u8 (r3 : Int), .int .u8 (r4 : Int), .int .u8 126, .int .u8 0, .int .u8 (r7 : Int), .int .u8 (r8 : Int), .int .u8 (r9 : Int), .int .u8 (r10 : Int)], .int .i64 40]) (fun w => rfl) (by go_simp) ?_
                  refine (line_z _ 16384 16384 yw r1 r2 r3 r4 r7 r8 r9 r10 40 H1.out H40.out H40'.out fb ob cb hfb hob hcb _ (HM5.out.byteRow (.s .z) HVw.out)).mono ?_
                  rintro e w5 ⟨rfl, hb⟩
                  have HM6 := Lib.hid (HM5.out.call hb)
                  refine ⟨_, rfl, HM6.out.forget.forget.forget.forget, ?_⟩
                  clear hb HM5
                  change wpAnyH _ _ _ _ _ _ _ (Act.put _ (some 81) _) _
                  (try simp only [Act.put, List.setIfInBounds_toArray, List.set_cons_zero, List.set_cons_succ])
                  refine wpAnyH_all (rs := [12]) (by kernel_rfl) (by simp) ?_
                  intro i hi
                  obtain rfl := List.mem_singleton.1 hi
                  refine wpOp_of rfl rfl ?_
                  refine w_lay HM6 rfl rfl rfl (.s (.s .z)) (.s (.s .z)) aggRow.size (rcells_length _ _ _) (rcells_length _ _ _) (rcells_one _ _ _) rfl ?_
                  intro w6 HM7
                  refine ⟨HM7.out.forget.forget.forget.forget, ?_⟩
                  clear HM6
                  refine wpAnyH_all (rs := [13]) (by kernel_rfl) (by simp) ?_
                  intro i hi
                  obtain rfl := List.mem_singleton.1 hi
                  refine wpOp_of rfl rfl ?_
                  refine w_lay HM7 rfl rfl rfl .z .z aggRow.size (rcells_length _ _ _) (rcells_length _ _ _) (rcells_one _ _ _) rfl ?_
                  intro w7 HM8
                  refine ⟨HM8.out.forget.forget.forget.forget, ?_⟩
                  clear HM7
                  refine wpAnyH_done (by kernel_rfl) ?_ _
                  go_wp2_with fail
                  go_meet
                  exact ⟨ha, hb_, _, rfl, rfl, HM8, Lib.hid (.s (.s .z)), Lib.hid .z⟩
              · refine wpOp_of rfl rfl ?_
                refine w_alloc HM3 rfl zeroRow ?_
                intro w3 hb_ HM4
                refine ⟨HM4.out.forget.forget.forget, ?_⟩
                clear HM3
                change wpAnyH _ _ _ _ _ _ _ (Act.put _ (some 13) _) _
                (try simp only [Act.put, List.setIfInBounds_toArray, List.set_cons_zero, List.set_cons_succ])
                refine wpAnyH_all (rs := [7]) (by kernel_rfl) (by simp) ?_
                intro i hi
                obtain rfl := List.mem_singleton.1 hi
                refine wpOp_of rfl rfl ?_
                refine w_call (f := 12) (args := #[.agg #[.slice q j cq, .slice a2 n2 c2], .agg #[.int .u8 0, .int .u8 (r1 : Int), .int .u8 (r2 : Int), .int .u8 (r3 : Int), .int .u8 (r4 : Int), .int .u8 126, .int .u8 0, .int .u8 (r7 : Int), .int .u8 (r8 : Int), .int .u8 (r9 : Int), .int .u8 (r10 : Int)]]) (fun w => rfl) (by go_simp) ?_
                refine (build_z q a2 j cq n2 c2 (mvB sp nb) tl r1 r2 r3 r4 r7 r8 r9 r10 _ (tri_now HR2.out (Own.rows2 (l := [_, _, _, _, _, _, _]) HM4.out) HSB1.out) (HT2.out.under (Own.fin HM4)) HC64.out L2.out yw HYW).mono ?_
                rintro e w4 ⟨gw, rfl, hg, hW, hb⟩
                have HM5 := Lib.hid (HM4.out.plus hb hg hW)
                refine ⟨_, rfl, HM5.out.forget.forget.forget.forget, ?_⟩
                clear hg hW hb HM4
                change wpAnyH _ _ _ _ _ _ _ (Act.put _ (some 79) _) _
                (try simp only [Act.put, List.setIfInBounds_toArray, List.set_cons_zero, List.set_cons_succ])
                refine wpAnyH_all (rs := [9]) (by kernel_rfl) (by simp) ?_
                intro i hi
                obtain rfl := List.mem_singleton.1 hi
                refine wpOp_of rfl rfl ?_
                refine w_call (f := 15) (args := #[.slice (some ⟨gw, 0, none⟩) 16384 16384, .agg #[.int .u8 0, .int .u8 (r1 : Int), .int .u8 (r2 : Int), .int .u8 (r3 : Int), .int .u8 (r4 : Int), .int .u8 126, .int .u8 0, .int .u8 (r7 : Int), .int .u8 (r8 : Int), .int .u8 (r9 : Int), .int .u8 (r10 : Int)], .int .i64 40]) (fun w => rfl) (by go_simp) ?_
                refine (line_z _ 16384 16384 yw r1 r2 r3 r4 r7 r8 r9 r10 40 H1.out H40.out H40'.out fb ob cb hfb hob hcb _ (HM5.out.byteRow .z HVw.out)).mono ?_
                rintro e w5 ⟨rfl, hb⟩
                have HM6 := Lib.hid (HM5.out.call hb)
                refine ⟨_, rfl, HM6.out.forget.forget.forget.forget, ?_⟩
                clear hb HM5
                change wpAnyH _ _ _ _ _ _ _ (Act.put _ (some 81) _) _
                (try simp only [Act.put, List.setIfInBounds_toArray, List.set_cons_zero, List.set_cons_succ])
                refine wpAnyH_all (rs := [12]) (by kernel_rfl) (by simp) ?_
                intro i hi
                obtain rfl := List.mem_singleton.1 hi
                refine wpOp_of rfl rfl ?_
                refine w_lay HM6 rfl rfl rfl (.s (.s .z)) (.s (.s .z)) aggRow.size (rcells_length _ _ _) (rcells_length _ _ _) (rcells_one _ _ _) rfl ?_
                intro w6 HM7
                refine ⟨HM7.out.forget.forget.forget.forget, ?_⟩
                clear HM6
                refine wpAnyH_all (rs := [13]) (by kernel_rfl) (by simp) ?_
                intro i hi
                obtain rfl := List.mem_singleton.1 hi
                refine wpOp_of rfl rfl ?_
                refine w_lay HM7 rfl rfl rfl (.s .z) (.s .z) aggRow.size (rcells_length _ _ _) (rcells_length _ _ _) (rcells_one _ _ _) rfl ?_
                intro w7 HM8
                refine ⟨HM8.out.forget.forget.forget.forget, ?_⟩
                clear HM7
                refine wpAnyH_done (by kernel_rfl) ?_ _
                go_wp2_with fail
                go_meet
                exact ⟨ha, hb_, _, rfl, rfl, HM8, Lib.hid (.s (.s .z)), Lib.hid (.s .z)⟩
            · refine wpOp_of rfl rfl ?_
              refine w_alloc HM2 rfl zeroRow ?_
              intro w2 hb_ HM3
              refine ⟨HM3.out.forget.forget.forget, ?_⟩
              clear HM2
              change wpAnyH _ _ _ _ _ _ _ (Act.put _ (some 13) _) _
              (try simp only [Act.put, List.setIfInBounds_toArray, List.set_cons_zero, List.set_cons_succ])
              refine wpAnyH_all (rs := [4]) (by kernel_rfl) (by simp) ?_
              intro i hi
              obtain rfl := List.mem_singleton.1 hi
              refine wpOp_of rfl rfl ?_
              refine w_call (f := 15) (args := #[.slice (some ⟨gv, 0, none⟩) 16384 16384, .agg #[.int .u8 0, .int .u8 (r1 : Int), .int .u8 (r2 : Int), .int .u8 (r3 : Int), .int .u8 (r4 : Int), .int .u8 126, .int .u8 0, .int .u8 (r7 : Int), .int .u8 (r8 : Int), .int .u8 (r9 : Int), .int .u8 (r10 : Int)], .int .i64 40]) (fun w => rfl) (by go_simp) ?_
              refine (line_z _ 16384 16384 yv r1 r2 r3 r4 r7 r8 r9 r10 40 H1.out H40.out H40'.out fa ob cb hfa hoa hca _ (HM3.out.byteRow (.s (.s .z)) HVv.out)).mono ?_
              rintro e w3 ⟨rfl, hb⟩
              have HM4 := Lib.hid (HM3.out.call hb)
              refine ⟨_, rfl, HM4.out.forget.forget.forget, ?_⟩
              clear hb HM3
              change wpAnyH _ _ _ _ _ _ _ (Act.put _ (some 76) _) _
              (try simp only [Act.put, List.setIfInBounds_toArray, List.set_cons_zero, List.set_cons_succ])
              refine wpAnyH_all (rs := [7]) (by kernel_rfl) (by simp) ?_
              intro i hi
              obtain rfl := List.mem_singleton.1 hi
              refine wpOp_of rfl rfl ?_
              refine w_call (f := 12) (args := #[.agg #[.slice q j cq, .slice a2 n2 c2], .agg #[.int .u8 0, .int .u8 (r1 : Int), .int .u8 (r2 : Int), .int .u8 (r3 : Int), .int .u8 (r4 : Int), .int .u8 126, .int .u8 0, .int .u8 (r7 : Int), .int .u8 (r8 : Int), .int .u8 (r9 : Int), .int .u8 (r10 : Int)]]) (fun w => rfl) (by go_simp) ?_
              refine (build_z q a2 j cq n2 c2 (mvB sp nb) tl r1 r2 r3 r4 r7 r8 r9 r10 _ (tri_now HR2.out (Own.rows2 (l := [_, _, _, _, _, _, _]) HM4.out) HSB1.out) (HT2.out.under (Own.fin HM4)) HC64.out L2.out yw HYW).mono ?_
              rintro e w4 ⟨gw, rfl, hg, hW, hb⟩
              have HM5 := Lib.hid (HM4.out.plus hb hg hW)
              refine ⟨_, rfl, HM5.out.forget.forget.forget.forget, ?_⟩
              clear hg hW hb HM4
              change wpAnyH _ _ _ _ _ _ _ (Act.put _ (some 79) _) _
              (try simp only [Act.put, List.setIfInBounds_toArray, List.set_cons_zero, List.set_cons_succ])
              refine wpAnyH_all (rs := [9]) (by kernel_rfl) (by simp) ?_
              intro i hi
              obtain rfl := List.mem_singleton.1 hi
              refine wpOp_of rfl rfl ?_
              refine w_call (f := 15) (args := #[.slice (some ⟨gw, 0, none⟩) 16384 16384, .agg #[.int .u8 0, .int .u8 (r1 : Int), .int .u8 (r2 : Int), .int .u8 (r3 : Int), .int .u8 (r4 : Int), .int .u8 126, .int .u8 0, .int .u8 (r7 : Int), .int .u8 (r8 : Int), .int .u8 (r9 : Int), .int .u8 (r10 : Int)], .int .i64 40]) (fun w => rfl) (by go_simp) ?_
              refine (line_z _ 16384 16384 yw r1 r2 r3 r4 r7 r8 r9 r10 40 H1.out H40.out H40'.out fb ob cb hfb hob hcb _ (HM5.out.byteRow .z HVw.out)).mono ?_
              rintro e w5 ⟨rfl, hb⟩
              have HM6 := Lib.hid (HM5.out.call hb)
              refine ⟨_, rfl, HM6.out.forget.forget.forget.forget, ?_⟩
              clear hb HM5
              change wpAnyH _ _ _ _ _ _ _ (Act.put _ (some 81) _) _
              (try simp only [Act.put, List.setIfInBounds_toArray, List.set_cons_zero, List.set_cons_succ])
              refine wpAnyH_all (rs := [12]) (by kernel_rfl) (by simp) ?_
              intro i hi
              obtain rfl := List.mem_singleton.1 hi
              refine wpOp_of rfl rfl ?_
              refine w_lay HM6 rfl rfl rfl (.s (.s .z)) (.s (.s .z)) aggRow.size (rcells_length _ _ _) (rcells_length _ _ _) (rcells_one _ _ _) rfl ?_
              intro w6 HM7
              refine ⟨HM7.out.forget.forget.forget.forget, ?_⟩
              clear HM6
              refine wpAnyH_all (rs := [13]) (by kernel_rfl) (by simp) ?_
              intro i hi
              obtain rfl := List.mem_singleton.1 hi
              refine wpOp_of rfl rfl ?_
              refine w_lay HM7 rfl rfl rfl (.s .z) (.s .z) aggRow.size (rcells_length _ _ _) (rcells_length _ _ _) (rcells_one _ _ _) rfl ?_
              intro w7 HM8
              refine ⟨HM8.out.forget.forget.forget.forget, ?_⟩
              clear HM7
              refine wpAnyH_done (by kernel_rfl) ?_ _
              go_wp2_with fail
              go_meet
              exact ⟨ha, hb_, _, rfl, rfl, HM8, Lib.hid (.s (.s .z)), Lib.hid (.s .z)⟩
          · refine wpOp_of rfl rfl ?_
            refine w_alloc HM1 rfl zeroRow ?_
            intro w1 hb_ HM2
            refine ⟨HM2.out.forget.forget, ?_⟩
            clear HM1
            change wpAnyH _ _ _ _ _ _ _ (Act.put _ (some 13) _) _
            (try simp only [Act.put, List.setIfInBounds_toArray, List.set_cons_zero, List.set_cons_succ])
            refine wpAnyH_all (rs := [4, 10]) (by kernel_rfl) (by simp) ?_
            intro i hi
            simp only [List.mem_cons, List.not_mem_nil, or_false] at hi
            rcases hi with rfl | rfl
            · refine wpOp_of rfl rfl ?_
              refine w_call (f := 15) (args := #[.slice (some ⟨gv, 0, none⟩) 16384 16384, .agg #[.int .u8 0, .int .u8 (r1 : Int), .int .u8 (r2 : Int), .int .u8 (r3 : Int), .int .u8 (r4 : Int), .int .u8 126, .int .u8 0, .int .u8 (r7 : Int), .int .u8 (r8 : Int), .int .u8 (r9 : Int), .int .u8 (r10 : Int)], .int .i64 40]) (fun w => rfl) (by go_simp) ?_
              refine (line_z _ 16384 16384 yv r1 r2 r3 r4 r7 r8 r9 r10 40 H1.out H40.out H40'.out fa ob cb hfa hoa hca _ (HM2.out.byteRow (.s .z) HVv.out)).mono ?_
              rintro e w2 ⟨rfl, hb⟩
              have HM3 := Lib.hid (HM2.out.call hb)
              refine ⟨_, rfl, HM3.out.forget.forget, ?_⟩
              clear hb HM2
              change wpAnyH _ _ _ _ _ _ _ (Act.put _ (some 76) _) _
              (try simp only [Act.put, List.setIfInBounds_toArray, List.set_cons_zero, List.set_cons_succ])
              refine wpAnyH_all (rs := [7, 10]) (by kernel_rfl) (by simp) ?_
              intro i hi
              simp only [List.mem_cons, List.not_mem_nil, or_false] at hi
              rcases hi with rfl | rfl
              · refine wpOp_of rfl rfl ?_
                refine w_call (f := 12) (args := #[.agg #[.slice q j cq, .slice a2 n2 c2], .agg #[.int .u8 0, .int .u8 (r1 : Int), .int .u8 (r2 : Int), .int .u8 (r3 : Int), .int .u8 (r4 : Int), .int .u8 126, .int .u8 0, .int .u8 (r7 : Int), .int .u8 (r8 : Int), .int .u8 (r9 : Int), .int .u8 (r10 : Int)]]) (fun w => rfl) (by go_simp) ?_
                refine (build_z q a2 j cq n2 c2 (mvB sp nb) tl r1 r2 r3 r4 r7 r8 r9 r10 _ (tri_now HR2.out (Own.rows2 (l := [_, _, _, _, _, _]) HM3.out) HSB1.out) (HT2.out.under (Own.fin HM3)) HC64.out L2.out yw HYW).mono ?_
                rintro e w3 ⟨gw, rfl, hg, hW, hb⟩
                have HM4 := Lib.hid (HM3.out.plus hb hg hW)
                refine ⟨_, rfl, HM4.out.forget.forget.forget, ?_⟩
                clear hg hW hb HM3
                change wpAnyH _ _ _ _ _ _ _ (Act.put _ (some 79) _) _
                (try simp only [Act.put, List.setIfInBounds_toArray, List.set_cons_zero, List.set_cons_succ])
                refine wpAnyH_all (rs := [9, 10]) (by kernel_rfl) (by simp) ?_
                intro i hi
                simp only [List.mem_cons, List.not_mem_nil, or_false] at hi
                rcases hi with rfl | rfl
                · refine wpOp_of rfl rfl ?_
                  refine w_call (f := 15) (args := #[.slice (some ⟨gw, 0, none⟩) 16384 16384, .agg #[.int .u8 0, .int .u8 (r1 : Int), .int .u8 (r2 : Int), .int .u8 (r3 : Int), .int .u8 (r4 : Int), .int .u8 126, .int .u8 0, .int .u8 (r7 : Int), .int .u8 (r8 : Int), .int .u8 (r9 : Int), .int .u8 (r10 : Int)], .int .i64 40]) (fun w => rfl) (by go_simp) ?_
                  refine (line_z _ 16384 16384 yw r1 r2 r3 r4 r7 r8 r9 r10 40 H1.out H40.out H40'.out fb ob cb hfb hob hcb _ (HM4.out.byteRow .z HVw.out)).mono ?_
                  rintro e w4 ⟨rfl, hb⟩
                  have HM5 := Lib.hid (HM4.out.call hb)
                  refine ⟨_, rfl, HM5.out.forget.forget.forget, ?_⟩
                  clear hb HM4
                  change wpAnyH _ _ _ _ _ _ _ (Act.put _ (some 81) _) _
                  (try simp only [Act.put, List.setIfInBounds_toArray, List.set_cons_zero, List.set_cons_succ])
                  refine wpAnyH_all (rs := [10]) (by kernel_rfl) (by simp) ?_
                  intro i hi
                  obtain rfl := List.mem_singleton.1 hi
                  refine wpOp_of rfl rfl ?_
                  refine w_alloc HM5 rfl zeroRow ?_
                  intro w5 ha HM6
                  refine ⟨HM6.out.forget.forget.forget.forget, ?_⟩
                  clear HM5
                  change wpAnyH _ _ _ _ _ _ _ (Act.put _ (some 12) _) _
                  (try simp only [Act.put, List.setIfInBounds_toArray, List.set_cons_zero, List.set_cons_succ])
                  refine wpAnyH_all (rs := [12]) (by kernel_rfl) (by simp) ?_
                  intro i hi
                  obtain rfl := List.mem_singleton.1 hi
                  refine wpOp_of rfl rfl ?_
                  refine w_lay HM6 rfl rfl rfl .z .z aggRow.size (rcells_length _ _ _) (rcells_length _ _ _) (rcells_one _ _ _) rfl ?_
                  intro w6 HM7
                  refine ⟨HM7.out.forget.forget.forget.forget, ?_⟩
                  clear HM6
                  refine wpAnyH_all (rs := [13]) (by kernel_rfl) (by simp) ?_
                  intro i hi
                  obtain rfl := List.mem_singleton.1 hi
                  refine wpOp_of rfl rfl ?_
                  refine w_lay HM7 rfl rfl rfl (.s (.s .z)) (.s (.s .z)) aggRow.size (rcells_length _ _ _) (rcells_length _ _ _) (rcells_one _ _ _) rfl ?_
                  intro w7 HM8
                  refine ⟨HM8.out.forget.forget.forget.forget, ?_⟩
                  clear HM7
                  refine wpAnyH_done (by kernel_rfl) ?_ _
                  go_wp2_with fail
                  go_meet
                  exact ⟨ha, hb_, _, rfl, rfl, HM8, Lib.hid .z, Lib.hid (.s (.s .z))⟩
                · refine wpOp_of rfl rfl ?_
                  refine w_alloc HM4 rfl zeroRow ?_
                  intro w4 ha HM5
                  refine ⟨HM5.out.forget.forget.forget.forget, ?_⟩
                  clear HM4
                  change wpAnyH _ _ _ _ _ _ _ (Act.put _ (some 12) _) _
                  (try simp only [Act.put, List.setIfInBounds_toArray, List.set_cons_zero, List.set_cons_succ])
                  refine wpAnyH_all (rs := [9]) (by kernel_rfl) (by simp) ?_
                  intro i hi
                  obtain rfl := List.mem_singleton.1 hi
                  refine wpOp_of rfl rfl ?_
                  refine w_call (f := 15) (args := #[.slice (some ⟨gw, 0, none⟩) 16384 16384, .agg #[.int .u8 0, .int .u8 (r1 : Int), .int .u8 (r2 : Int), .int .u8 (r3 : Int), .int .u8 (r4 : Int), .int .u8 126, .int .u8 0, .int .u8 (r7 : Int), .int .u8 (r8 : Int), .int .u8 (r9 : Int), .int .u8 (r10 : Int)], .int .i64 40]) (fun w => rfl) (by go_simp) ?_
                  refine (line_z _ 16384 16384 yw r1 r2 r3 r4 r7 r8 r9 r10 40 H1.out H40.out H40'.out fb ob cb hfb hob hcb _ (HM5.out.byteRow (.s .z) HVw.out)).mono ?_
                  rintro e w5 ⟨rfl, hb⟩
                  have HM6 := Lib.hid (HM5.out.call hb)
                  refine ⟨_, rfl, HM6.out.forget.forget.forget.forget, ?_⟩
                  clear hb HM5
                  change wpAnyH _ _ _ _ _ _ _ (Act.put _ (some 81) _) _
                  (try simp only [Act.put, List.setIfInBounds_toArray, List.set_cons_zero, List.set_cons_succ])
                  refine wpAnyH_all (rs := [12]) (by kernel_rfl) (by simp) ?_
                  intro i hi
                  obtain rfl := List.mem_singleton.1 hi
                  refine wpOp_of rfl rfl ?_
                  refine w_lay HM6 rfl rfl rfl .z .z aggRow.size (rcells_length _ _ _) (rcells_length _ _ _) (rcells_one _ _ _) rfl ?_
                  intro w6 HM7
                  refine ⟨HM7.out.forget.forget.forget.forget, ?_⟩
                  clear HM6
                  refine wpAnyH_all (rs := [13]) (by kernel_rfl) (by simp) ?_
                  intro i hi
                  obtain rfl := List.mem_singleton.1 hi
                  refine wpOp_of rfl rfl ?_
                  refine w_lay HM7 rfl rfl rfl (.s (.s .z)) (.s (.s .z)) aggRow.size (rcells_length _ _ _) (rcells_length _ _ _) (rcells_one _ _ _) rfl ?_
                  intro w7 HM8
                  refine ⟨HM8.out.forget.forget.forget.forget, ?_⟩
                  clear HM7
                  refine wpAnyH_done (by kernel_rfl) ?_ _
                  go_wp2_with fail
                  go_meet
                  exact ⟨ha, hb_, _, rfl, rfl, HM8, Lib.hid .z, Lib.hid (.s (.s .z))⟩
              · refine wpOp_of rfl rfl ?_
                refine w_alloc HM3 rfl zeroRow ?_
                intro w3 ha HM4
                refine ⟨HM4.out.forget.forget.forget, ?_⟩
                clear HM3
                change wpAnyH _ _ _ _ _ _ _ (Act.put _ (some 12) _) _
                (try simp only [Act.put, List.setIfInBounds_toArray, List.set_cons_zero, List.set_cons_succ])
                refine wpAnyH_all (rs := [7]) (by kernel_rfl) (by simp) ?_
                intro i hi
                obtain rfl := List.mem_singleton.1 hi
                refine wpOp_of rfl rfl ?_
                refine w_call (f := 12) (args := #[.agg #[.slice q j cq, .slice a2 n2 c2], .agg #[.int .u8 0, .int .u8 (r1 : Int), .int .u8 (r2 : Int), .int .u8 (r3 : Int), .int .u8 (r4 : Int), .int .u8 126, .int .u8 0, .int .u8 (r7 : Int), .int .u8 (r8 : Int), .int .u8 (r9 : Int), .int .u8 (r10 : Int)]]) (fun w => rfl) (by go_simp) ?_
                refine (build_z q a2 j cq n2 c2 (mvB sp nb) tl r1 r2 r3 r4 r7 r8 r9 r10 _ (tri_now HR2.out (Own.rows2 (l := [_, _, _, _, _, _, _]) HM4.out) HSB1.out) (HT2.out.under (Own.fin HM4)) HC64.out L2.out yw HYW).mono ?_
                rintro e w4 ⟨gw, rfl, hg, hW, hb⟩
                have HM5 := Lib.hid (HM4.out.plus hb hg hW)
                refine ⟨_, rfl, HM5.out.forget.forget.forget.forget, ?_⟩
                clear hg hW hb HM4
                change wpAnyH _ _ _ _ _ _ _ (Act.put _ (some 79) _) _
                (try simp only [Act.put, List.setIfInBounds_toArray, List.set_cons_zero, List.set_cons_succ])
                refine wpAnyH_all (rs := [9]) (by kernel_rfl) (by simp) ?_
                intro i hi
                obtain rfl := List.mem_singleton.1 hi
                refine wpOp_of rfl rfl ?_
                refine w_call (f := 15) (args := #[.slice (some ⟨gw, 0, none⟩) 16384 16384, .agg #[.int .u8 0, .int .u8 (r1 : Int), .int .u8 (r2 : Int), .int .u8 (r3 : Int), .int .u8 (r4 : Int), .int .u8 126, .int .u8 0, .int .u8 (r7 : Int), .int .u8 (r8 : Int), .int .u8 (r9 : Int), .int .u8 (r10 : Int)], .int .i64 40]) (fun w => rfl) (by go_simp) ?_
                refine (line_z _ 16384 16384 yw r1 r2 r3 r4 r7 r8 r9 r10 40 H1.out H40.out H40'.out fb ob cb hfb hob hcb _ (HM5.out.byteRow .z HVw.out)).mono ?_
                rintro e w5 ⟨rfl, hb⟩
                have HM6 := Lib.hid (HM5.out.call hb)
                refine ⟨_, rfl, HM6.out.forget.forget.forget.forget, ?_⟩
                clear hb HM5
                change wpAnyH _ _ _ _ _ _ _ (Act.put _ (some 81) _) _
                (try simp only [Act.put, List.setIfInBounds_toArray, List.set_cons_zero, List.set_cons_succ])
                refine wpAnyH_all (rs := [12]) (by kernel_rfl) (by simp) ?_
                intro i hi
                obtain rfl := List.mem_singleton.1 hi
                refine wpOp_of rfl rfl ?_
                refine w_lay HM6 rfl rfl rfl (.s .z) (.s .z) aggRow.size (rcells_length _ _ _) (rcells_length _ _ _) (rcells_one _ _ _) rfl ?_
                intro w6 HM7
                refine ⟨HM7.out.forget.forget.forget.forget, ?_⟩
                clear HM6
                refine wpAnyH_all (rs := [13]) (by kernel_rfl) (by simp) ?_
                intro i hi
                obtain rfl := List.mem_singleton.1 hi
                refine wpOp_of rfl rfl ?_
                refine w_lay HM7 rfl rfl rfl (.s (.s .z)) (.s (.s .z)) aggRow.size (rcells_length _ _ _) (rcells_length _ _ _) (rcells_one _ _ _) rfl ?_
                intro w7 HM8
                refine ⟨HM8.out.forget.forget.forget.forget, ?_⟩
                clear HM7
                refine wpAnyH_done (by kernel_rfl) ?_ _
                go_wp2_with fail
                go_meet
                exact ⟨ha, hb_, _, rfl, rfl, HM8, Lib.hid (.s .z), Lib.hid (.s (.s .z))⟩
            · refine wpOp_of rfl rfl ?_
              refine w_alloc HM2 rfl zeroRow ?_
              intro w2 ha HM3
              refine ⟨HM3.out.forget.forget.forget, ?_⟩
              clear HM2
              change wpAnyH _ _ _ _ _ _ _ (Act.put _ (some 12) _) _
              (try simp only [Act.put, List.setIfInBounds_toArray, List.set_cons_zero, List.set_cons_succ])
              refine wpAnyH_all (rs := [4]) (by kernel_rfl) (by simp) ?_
              intro i hi
              obtain rfl := List.mem_singleton.1 hi
              refine wpOp_of rfl rfl ?_
              refine w_call (f := 15) (args := #[.slice (some ⟨gv, 0, none⟩) 16384 16384, .agg #[.int .u8 0, .int .u8 (r1 : Int), .int .u8 (r2 : Int), .int .u8 (r3 : Int), .int .u8 (r4 : Int), .int .u8 126, .int .u8 0, .int .u8 (r7 : Int), .int .u8 (r8 : Int), .int .u8 (r9 : Int), .int .u8 (r10 : Int)], .int .i64 40]) (fun w => rfl) (by go_simp) ?_
              refine (line_z _ 16384 16384 yv r1 r2 r3 r4 r7 r8 r9 r10 40 H1.out H40.out H40'.out fa ob cb hfa hoa hca _ (HM3.out.byteRow (.s (.s .z)) HVv.out)).mono ?_
              rintro e w3 ⟨rfl, hb⟩
              have HM4 := Lib.hid (HM3.out.call hb)
              refine ⟨_, rfl, HM4.out.forget.forget.forget, ?_⟩
              clear hb HM3
              change wpAnyH _ _ _ _ _ _ _ (Act.put _ (some 76) _) _
              (try simp only [Act.put, List.setIfInBounds_toArray, List.set_cons_zero, List.set_cons_succ])
              refine wpAnyH_all (rs := [7]) (by kernel_rfl) (by simp) ?_
              intro i hi
              obtain rfl := List.mem_singleton.1 hi
              refine wpOp_of rfl rfl ?_
              refine w_call (f := 12) (args := #[.agg #[.slice q j cq, .slice a2 n2 c2], .agg #[.int .u8 0, .int .u8 (r1 : Int), .int .u8 (r2 : Int), .int .u8 (r3 : Int), .int .u8 (r4 : Int), .int .u8 126, .int .u8 0, .int .u8 (r7 : Int), .int .u8 (r8 : Int), .int .u8 (r9 : Int), .int .u8 (r10 : Int)]]) (fun w => rfl) (by go_simp) ?_
              refine (build_z q a2 j cq n2 c2 (mvB sp nb) tl r1 r2 r3 r4 r7 r8 r9 r10 _ (tri_now HR2.out (Own.rows2 (l := [_, _, _, _, _, _, _]) HM4.out) HSB1.out) (HT2.out.under (Own.fin HM4)) HC64.out L2.out yw HYW).mono ?_
              rintro e w4 ⟨gw, rfl, hg, hW, hb⟩
              have HM5 := Lib.hid (HM4.out.plus hb hg hW)
              refine ⟨_, rfl, HM5.out.forget.forget.forget.forget, ?_⟩
              clear hg hW hb HM4
              change wpAnyH _ _ _ _ _ _ _ (Act.put _ (some 79) _) _
              (try simp only [Act.put, List.setIfInBounds_toArray, List.set_cons_zero, List.set_cons_succ])
              refine wpAnyH_all (rs := [9]) (by kernel_rfl) (by simp) ?_
              intro i hi
              obtain rfl := List.mem_singleton.1 hi
              refine wpOp_of rfl rfl ?_
              refine w_call (f := 15) (args := #[.slice (some ⟨gw, 0, none⟩) 16384 16384, .agg #[.int .u8 0, .int .u8 (r1 : Int), .int .u8 (r2 : Int), .int .u8 (r3 : Int), .int .u8 (r4 : Int), .int .u8 126, .int .u8 0, .int .u8 (r7 : Int), .int .u8 (r8 : Int), .int .u8 (r9 : Int), .int .u8 (r10 : Int)], .int .i64 40]) (fun w => rfl) (by go_simp) ?_
              refine (line_z _ 16384 16384 yw r1 r2 r3 r4 r7 r8 r9 r10 40 H1.out H40.out H40'.out fb ob cb hfb hob hcb _ (HM5.out.byteRow .z HVw.out)).mono ?_
              rintro e w5 ⟨rfl, hb⟩
              have HM6 := Lib.hid (HM5.out.call hb)
              refine ⟨_, rfl, HM6.out.forget.forget.forget.forget, ?_⟩
              clear hb HM5
              change wpAnyH _ _ _ _ _ _ _ (Act.put _ (some 81) _) _
              (try simp only [Act.put, List.setIfInBounds_toArray, List.set_cons_zero, List.set_cons_succ])
              refine wpAnyH_all (rs := [12]) (by kernel_rfl) (by simp) ?_
              intro i hi
              obtain rfl := List.mem_singleton.1 hi
              refine wpOp_of rfl rfl ?_
              refine w_lay HM6 rfl rfl rfl (.s .z) (.s .z) aggRow.size (rcells_length _ _ _) (rcells_length _ _ _) (rcells_one _ _ _) rfl ?_
              intro w6 HM7
              refine ⟨HM7.out.forget.forget.forget.forget, ?_⟩
              clear HM6
              refine wpAnyH_all (rs := [13]) (by kernel_rfl) (by simp) ?_
              intro i hi
              obtain rfl := List.mem_singleton.1 hi
              refine wpOp_of rfl rfl ?_
              refine w_lay HM7 rfl rfl rfl (.s (.s .z)) (.s (.s .z)) aggRow.size (rcells_length _ _ _) (rcells_length _ _ _) (rcells_one _ _ _) rfl ?_
              intro w7 HM8
              refine ⟨HM8.out.forget.forget.forget.forget, ?_⟩
              clear HM7
              refine wpAnyH_done (by kernel_rfl) ?_ _
              go_wp2_with fail
              go_meet
              exact ⟨ha, hb_, _, rfl, rfl, HM8, Lib.hid (.s .z), Lib.hid (.s (.s .z))⟩
        · refine wpOp_of rfl rfl ?_
          refine w_alloc HM0 rfl zeroRow ?_
          intro w0 ha HM1
          refine ⟨HM1.out.forget, ?_⟩
          clear HM0
          change wpAnyH _ _ _ _ _ _ _ (Act.put _ (some 12) _) _
          (try simp only [Act.put, List.setIfInBounds_toArray, List.set_cons_zero, List.set_cons_succ])
          refine wpAnyH_all (rs := [2, 11]) (by kernel_rfl) (by simp) ?_
          intro i hi
          simp only [List.mem_cons, List.not_mem_nil, or_false] at hi
          rcases hi with rfl | rfl
          · refine wpOp_of rfl rfl ?_
            refine w_call (f := 12) (args := #[.agg #[.slice p j cp, .slice a2 n2 c2], .agg #[.int .u8 0, .int .u8 (r1 : Int), .int .u8 (r2 : Int), .int .u8 (r3 : Int), .int .u8 (r4 : Int), .int .u8 126, .int .u8 0, .int .u8 (r7 : Int), .int .u8 (r8 : Int), .int .u8 (r9 : Int), .int .u8 (r10 : Int)]]) (fun w => rfl) (by go_simp) ?_
            refine (build_z p a2 j cp n2 c2 (mvA sp) tl r1 r2 r3 r4 r7 r8 r9 r10 _ (tri_now HR1.out (Own.rows1 (l := [_, _, _, _, _]) HM1.out) HSA1.out) (HT2.out.under (Own.fin HM1)) HC64.out L2.out yv HYV).mono ?_
            rintro e w1 ⟨gv, rfl, hg, hW, hb⟩
            have HM2 := Lib.hid (HM1.out.plus hb hg hW)
            refine ⟨_, rfl, HM2.out.forget.forget, ?_⟩
            clear hg hW hb HM1
            change wpAnyH _ _ _ _ _ _ _ (Act.put _ (some 74) _) _
            (try simp only [Act.put, List.setIfInBounds_toArray, List.set_cons_zero, List.set_cons_succ])
            refine wpAnyH_all (rs := [4, 11]) (by kernel_rfl) (by simp) ?_
            intro i hi
            simp only [List.mem_cons, List.not_mem_nil, or_false] at hi
            rcases hi with rfl | rfl
            · refine wpOp_of rfl rfl ?_
              refine w_call (f := 15) (args := #[.slice (some ⟨gv, 0, none⟩) 16384 16384, .agg #[.int .u8 0, .int .u8 (r1 : Int), .int .u8 (r2 : Int), .int .u8 (r3 : Int), .int .u8 (r4 : Int), .int .u8 126, .int .u8 0, .int .u8 (r7 : Int), .int .u8 (r8 : Int), .int .u8 (r9 : Int), .int .u8 (r10 : Int)], .int .i64 40]) (fun w => rfl) (by go_simp) ?_
              refine (line_z _ 16384 16384 yv r1 r2 r3 r4 r7 r8 r9 r10 40 H1.out H40.out H40'.out fa ob cb hfa hoa hca _ (HM2.out.byteRow .z HVv.out)).mono ?_
              rintro e w2 ⟨rfl, hb⟩
              have HM3 := Lib.hid (HM2.out.call hb)
              refine ⟨_, rfl, HM3.out.forget.forget, ?_⟩
              clear hb HM2
              change wpAnyH _ _ _ _ _ _ _ (Act.put _ (some 76) _) _
              (try simp only [Act.put, List.setIfInBounds_toArray, List.set_cons_zero, List.set_cons_succ])
              refine wpAnyH_all (rs := [7, 11]) (by kernel_rfl) (by simp) ?_
              intro i hi
              simp only [List.mem_cons, List.not_mem_nil, or_false] at hi
              rcases hi with rfl | rfl
              · refine wpOp_of rfl rfl ?_
                refine w_call (f := 12) (args := #[.agg #[.slice q j cq, .slice a2 n2 c2], .agg #[.int .u8 0, .int .u8 (r1 : Int), .int .u8 (r2 : Int), .int .u8 (r3 : Int), .int .u8 (r4 : Int), .int .u8 126, .int .u8 0, .int .u8 (r7 : Int), .int .u8 (r8 : Int), .int .u8 (r9 : Int), .int .u8 (r10 : Int)]]) (fun w => rfl) (by go_simp) ?_
                refine (build_z q a2 j cq n2 c2 (mvB sp nb) tl r1 r2 r3 r4 r7 r8 r9 r10 _ (tri_now HR2.out (Own.rows2 (l := [_, _, _, _, _, _]) HM3.out) HSB1.out) (HT2.out.under (Own.fin HM3)) HC64.out L2.out yw HYW).mono ?_
                rintro e w3 ⟨gw, rfl, hg, hW, hb⟩
                have HM4 := Lib.hid (HM3.out.plus hb hg hW)
                refine ⟨_, rfl, HM4.out.forget.forget.forget, ?_⟩
                clear hg hW hb HM3
                change wpAnyH _ _ _ _ _ _ _ (Act.put _ (some 79) _) _
                (try simp only [Act.put, List.setIfInBounds_toArray, List.set_cons_zero, List.set_cons_succ])
                refine wpAnyH_all (rs := [9, 11]) (by kernel_rfl) (by simp) ?_
                intro i hi
                simp only [List.mem_cons, List.not_mem_nil, or_false] at hi
                rcases hi with rfl | rfl
                · refine wpOp_of rfl rfl ?_
                  refine w_call (f := 15) (args := #[.slice (some ⟨gw, 0, none⟩) 16384 16384, .agg #[.int .u8 0, .int .u8 (r1 : Int), .int .u8 (r2 : Int), .int .u8 (r3 : Int), .int .u8 (r4 : Int), .int .u8 126, .int .u8 0, .int .u8 (r7 : Int), .int .u8 (r8 : Int), .int .u8 (r9 : Int), .int .u8 (r10 : Int)], .int .i64 40]) (fun w => rfl) (by go_simp) ?_
                  refine (line_z _ 16384 16384 yw r1 r2 r3 r4 r7 r8 r9 r10 40 H1.out H40.out H40'.out fb ob cb hfb hob hcb _ (HM4.out.byteRow .z HVw.out)).mono ?_
                  rintro e w4 ⟨rfl, hb⟩
                  have HM5 := Lib.hid (HM4.out.call hb)
                  refine ⟨_, rfl, HM5.out.forget.forget.forget, ?_⟩
                  clear hb HM4
                  change wpAnyH _ _ _ _ _ _ _ (Act.put _ (some 81) _) _
                  (try simp only [Act.put, List.setIfInBounds_toArray, List.set_cons_zero, List.set_cons_succ])
                  refine wpAnyH_all (rs := [11]) (by kernel_rfl) (by simp) ?_
                  intro i hi
                  obtain rfl := List.mem_singleton.1 hi
                  refine wpOp_of rfl rfl ?_
                  refine w_alloc HM5 rfl zeroRow ?_
                  intro w5 hb_ HM6
                  refine ⟨HM6.out.forget.forget.forget.forget, ?_⟩
                  clear HM5
                  change wpAnyH _ _ _ _ _ _ _ (Act.put _ (some 13) _) _
                  (try simp only [Act.put, List.setIfInBounds_toArray, List.set_cons_zero, List.set_cons_succ])
                  refine wpAnyH_all (rs := [12]) (by kernel_rfl) (by simp) ?_
                  intro i hi
                  obtain rfl := List.mem_singleton.1 hi
                  refine wpOp_of rfl rfl ?_
                  refine w_lay HM6 rfl rfl rfl (.s (.s (.s .z))) (.s (.s (.s .z))) aggRow.size (rcells_length _ _ _) (rcells_length _ _ _) (rcells_one _ _ _) rfl ?_
                  intro w6 HM7
                  refine ⟨HM7.out.forget.forget.forget.forget, ?_⟩
                  clear HM6
                  refine wpAnyH_all (rs := [13]) (by kernel_rfl) (by simp) ?_
                  intro i hi
                  obtain rfl := List.mem_singleton.1 hi
                  refine wpOp_of rfl rfl ?_
                  refine w_lay HM7 rfl rfl rfl .z .z aggRow.size (rcells_length _ _ _) (rcells_length _ _ _) (rcells_one _ _ _) rfl ?_
                  intro w7 HM8
                  refine ⟨HM8.out.forget.forget.forget.forget, ?_⟩
                  clear HM7
                  refine wpAnyH_done (by kernel_rfl) ?_ _
                  go_wp2_with fail
                  go_meet
                  exact ⟨ha, hb_, _, rfl, rfl, HM8, Lib.hid (.s (.s (.s .z))), Lib.hid .z⟩
                · refine wpOp_of rfl rfl ?_
                  refine w_alloc HM4 rfl zeroRow ?_
                  intro w4 hb_ HM5
                  refine ⟨HM5.out.forget.forget.forget.forget, ?_⟩
                  clear HM4
                  change wpAnyH _ _ _ _ _ _ _ (Act.put _ (some 13) _) _
                  (try simp only [Act.put, List.setIfInBounds_toArray, List.set_cons_zero, List.set_cons_succ])
                  refine wpAnyH_all (rs := [9]) (by kernel_rfl) (by simp) ?_
                  intro i hi
                  obtain rfl := List.mem_singleton.1 hi
                  refine wpOp_of rfl rfl ?_
                  refine w_call (f := 15) (args := #[.slice (some ⟨gw, 0, none⟩) 16384 16384, .agg #[.int .u8 0, .int .u8 (r1 : Int), .int .u8 (r2 : Int), .int .u8 (r3 : Int), .int .u8 (r4 : Int), .int .u8 126, .int .u8 0, .int .u8 (r7 : Int), .int .u8 (r8 : Int), .int .u8 (r9 : Int), .int .u8 (r10 : Int)], .int .i64 40]) (fun w => rfl) (by go_simp) ?_
                  refine (line_z _ 16384 16384 yw r1 r2 r3 r4 r7 r8 r9 r10 40 H1.out H40.out H40'.out fb ob cb hfb hob hcb _ (HM5.out.byteRow (.s .z) HVw.out)).mono ?_
                  rintro e w5 ⟨rfl, hb⟩
                  have HM6 := Lib.hid (HM5.out.call hb)
                  refine ⟨_, rfl, HM6.out.forget.forget.forget.forget, ?_⟩
                  clear hb HM5
                  change wpAnyH _ _ _ _ _ _ _ (Act.put _ (some 81) _) _
                  (try simp only [Act.put, List.setIfInBounds_toArray, List.set_cons_zero, List.set_cons_succ])
                  refine wpAnyH_all (rs := [12]) (by kernel_rfl) (by simp) ?_
                  intro i hi
                  obtain rfl := List.mem_singleton.1 hi
                  refine wpOp_of rfl rfl ?_
                  refine w_lay HM6 rfl rfl rfl (.s (.s (.s .z))) (.s (.s (.s .z))) aggRow.size (rcells_length _ _ _) (rcells_length _ _ _) (rcells_one _ _ _) rfl ?_
                  intro w6 HM7
                  refine ⟨HM7.out.forget.forget.forget.forget, ?_⟩
                  clear HM6
                  refine wpAnyH_all (rs := [13]) (by kernel_rfl) (by simp) ?_
                  intro i hi
                  obtain rfl := List.mem_singleton.1 hi
                  refine wpOp_of rfl rfl ?_
                  refine w_lay HM7 rfl rfl rfl .z .z aggRow.size (rcells_length _ _ _) (rcells_length _ _ _) (rcells_one _ _ _) rfl ?_
                  intro w7 HM8
                  refine ⟨HM8.out.forget.forget.forget.forget, ?_⟩
                  clear HM7
                  refine wpAnyH_done (by kernel_rfl) ?_ _
                  go_wp2_with fail
                  go_meet
                  exact ⟨ha, hb_, _, rfl, rfl, HM8, Lib.hid (.s (.s (.s .z))), Lib.hid .z⟩
              · refine wpOp_of rfl rfl ?_
                refine w_alloc HM3 rfl zeroRow ?_
                intro w3 hb_ HM4
                refine ⟨HM4.out.forget.forget.forget, ?_⟩
                clear HM3
                change wpAnyH _ _ _ _ _ _ _ (Act.put _ (some 13) _) _
                (try simp only [Act.put, List.setIfInBounds_toArray, List.set_cons_zero, List.set_cons_succ])
                refine wpAnyH_all (rs := [7]) (by kernel_rfl) (by simp) ?_
                intro i hi
                obtain rfl := List.mem_singleton.1 hi
                refine wpOp_of rfl rfl ?_
                refine w_call (f := 12) (args := #[.agg #[.slice q j cq, .slice a2 n2 c2], .agg #[.int .u8 0, .int .u8 (r1 : Int), .int .u8 (r2 : Int), .int .u8 (r3 : Int), .int .u8 (r4 : Int), .int .u8 126, .int .u8 0, .int .u8 (r7 : Int), .int .u8 (r8 : Int), .int .u8 (r9 : Int), .int .u8 (r10 : Int)]]) (fun w => rfl) (by go_simp) ?_
                refine (build_z q a2 j cq n2 c2 (mvB sp nb) tl r1 r2 r3 r4 r7 r8 r9 r10 _ (tri_now HR2.out (Own.rows2 (l := [_, _, _, _, _, _, _]) HM4.out) HSB1.out) (HT2.out.under (Own.fin HM4)) HC64.out L2.out yw HYW).mono ?_
                rintro e w4 ⟨gw, rfl, hg, hW, hb⟩
                have HM5 := Lib.hid (HM4.out.plus hb hg hW)
                refine ⟨_, rfl, HM5.out.forget.forget.forget.forget, ?_⟩
                clear hg hW hb HM4
                change wpAnyH _ _ _ _ _ _ _ (Act.put _ (some 79) _) _
                (try simp only [Act.put, List.setIfInBounds_toArray, List.set_cons_zero, List.set_cons_succ])
                refine wpAnyH_all (rs := [9]) (by kernel_rfl) (by simp) ?_
                intro i hi
                obtain rfl := List.mem_singleton.1 hi
                refine wpOp_of rfl rfl ?_
                refine w_call (f := 15) (args := #[.slice (some ⟨gw, 0, none⟩) 16384 16384, .agg #[.int .u8 0, .int .u8 (r1 : Int), .int .u8 (r2 : Int), .int .u8 (r3 : Int), .int .u8 (r4 : Int), .int .u8 126, .int .u8 0, .int .u8 (r7 : Int), .int .u8 (r8 : Int), .int .u8 (r9 : Int), .int .u8 (r10 : Int)], .int .i64 40]) (fun w => rfl) (by go_simp) ?_
                refine (line_z _ 16384 16384 yw r1 r2 r3 r4 r7 r8 r9 r10 40 H1.out H40.out H40'.out fb ob cb hfb hob hcb _ (HM5.out.byteRow .z HVw.out)).mono ?_
                rintro e w5 ⟨rfl, hb⟩
                have HM6 := Lib.hid (HM5.out.call hb)
                refine ⟨_, rfl, HM6.out.forget.forget.forget.forget, ?_⟩
                clear hb HM5
                change wpAnyH _ _ _ _ _ _ _ (Act.put _ (some 81) _) _
                (try simp only [Act.put, List.setIfInBounds_toArray, List.set_cons_zero, List.set_cons_succ])
                refine wpAnyH_all (rs := [12]) (by kernel_rfl) (by simp) ?_
                intro i hi
                obtain rfl := List.mem_singleton.1 hi
                refine wpOp_of rfl rfl ?_
                refine w_lay HM6 rfl rfl rfl (.s (.s (.s .z))) (.s (.s (.s .z))) aggRow.size (rcells_length _ _ _) (rcells_length _ _ _) (rcells_one _ _ _) rfl ?_
                intro w6 HM7
                refine ⟨HM7.out.forget.forget.forget.forget, ?_⟩
                clear HM6
                refine wpAnyH_all (rs := [13]) (by kernel_rfl) (by simp) ?_
                intro i hi
                obtain rfl := List.mem_singleton.1 hi
                refine wpOp_of rfl rfl ?_
                refine w_lay HM7 rfl rfl rfl (.s .z) (.s .z) aggRow.size (rcells_length _ _ _) (rcells_length _ _ _) (rcells_one _ _ _) rfl ?_
                intro w7 HM8
                refine ⟨HM8.out.forget.forget.forget.forget, ?_⟩
                clear HM7
                refine wpAnyH_done (by kernel_rfl) ?_ _
                go_wp2_with fail
                go_meet
                exact ⟨ha, hb_, _, rfl, rfl, HM8, Lib.hid (.s (.s (.s .z))), Lib.hid (.s .z)⟩
            · refine wpOp_of rfl rfl ?_
              refine w_alloc HM2 rfl zeroRow ?_
              intro w2 hb_ HM3
              refine ⟨HM3.out.forget.forget.forget, ?_⟩
              clear HM2
              change wpAnyH _ _ _ _ _ _ _ (Act.put _ (some 13) _) _
              (try simp only [Act.put, List.setIfInBounds_toArray, List.set_cons_zero, List.set_cons_succ])
              refine wpAnyH_all (rs := [4]) (by kernel_rfl) (by simp) ?_
              intro i hi
              obtain rfl := List.mem_singleton.1 hi
              refine wpOp_of rfl rfl ?_
              refine w_call (f := 15) (args := #[.slice (some ⟨gv, 0, none⟩) 16384 16384, .agg #[.int .u8 0, .int .u8 (r1 : Int), .int .u8 (r2 : Int), .int .u8 (r3 : Int), .int .u8 (r4 : Int), .int .u8 126, .int .u8 0, .int .u8 (r7 : Int), .int .u8 (r8 : Int), .int .u8 (r9 : Int), .int .u8 (r10 : Int)], .int .i64 40]) (fun w => rfl) (by go_simp) ?_
              refine (line_z _ 16384 16384 yv r1 r2 r3 r4 r7 r8 r9 r10 40 H1.out H40.out H40'.out fa ob cb hfa hoa hca _ (HM3.out.byteRow (.s .z) HVv.out)).mono ?_
              rintro e w3 ⟨rfl, hb⟩
              have HM4 := Lib.hid (HM3.out.call hb)
              refine ⟨_, rfl, HM4.out.forget.forget.forget, ?_⟩
              clear hb HM3
              change wpAnyH _ _ _ _ _ _ _ (Act.put _ (some 76) _) _
              (try simp only [Act.put, List.setIfInBounds_toArray, List.set_cons_zero, List.set_cons_succ])
              refine wpAnyH_all (rs := [7]) (by kernel_rfl) (by simp) ?_
              intro i hi
              obtain rfl := List.mem_singleton.1 hi
              refine wpOp_of rfl rfl ?_
              refine w_call (f := 12) (args := #[.agg #[.slice q j cq, .slice a2 n2 c2], .agg #[.int .u8 0, .int .u8 (r1 : Int), .int .u8 (r2 : Int), .int .u8 (r3 : Int), .int .u8 (r4 : Int), .int .u8 126, .int .u8 0, .int .u8 (r7 : Int), .int .u8 (r8 : Int), .int .u8 (r9 : Int), .int .u8 (r10 : Int)]]) (fun w => rfl) (by go_simp) ?_
              refine (build_z q a2 j cq n2 c2 (mvB sp nb) tl r1 r2 r3 r4 r7 r8 r9 r10 _ (tri_now HR2.out (Own.rows2 (l := [_, _, _, _, _, _, _]) HM4.out) HSB1.out) (HT2.out.under (Own.fin HM4)) HC64.out L2.out yw HYW).mono ?_
              rintro e w4 ⟨gw, rfl, hg, hW, hb⟩
              have HM5 := Lib.hid (HM4.out.plus hb hg hW)
              refine ⟨_, rfl, HM5.out.forget.forget.forget.forget, ?_⟩
              clear hg hW hb HM4
              change wpAnyH _ _ _ _ _ _ _ (Act.put _ (some 79) _) _
              (try simp only [Act.put, List.setIfInBounds_toArray, List.set_cons_zero, List.set_cons_succ])
              refine wpAnyH_all (rs := [9]) (by kernel_rfl) (by simp) ?_
              intro i hi
              obtain rfl := List.mem_singleton.1 hi
              refine wpOp_of rfl rfl ?_
              refine w_call (f := 15) (args := #[.slice (some ⟨gw, 0, none⟩) 16384 16384, .agg #[.int .u8 0, .int .u8 (r1 : Int), .int .u8 (r2 : Int), .int .u8 (r3 : Int), .int .u8 (r4 : Int), .int .u8 126, .int .u8 0, .int .u8 (r7 : Int), .int .u8 (r8 : Int), .int .u8 (r9 : Int), .int .u8 (r10 : Int)], .int .i64 40]) (fun w => rfl) (by go_simp) ?_
              refine (line_z _ 16384 16384 yw r1 r2 r3 r4 r7 r8 r9 r10 40 H1.out H40.out H40'.out fb ob cb hfb hob hcb _ (HM5.out.byteRow .z HVw.out)).mono ?_
              rintro e w5 ⟨rfl, hb⟩
              have HM6 := Lib.hid (HM5.out.call hb)
              refine ⟨_, rfl, HM6.out.forget.forget.forget.forget, ?_⟩
              clear hb HM5
              change wpAnyH _ _ _ _ _ _ _ (Act.put _ (some 81) _) _
              (try simp only [Act.put, List.setIfInBounds_toArray, List.set_cons_zero, List.set_cons_succ])
              refine wpAnyH_all (rs := [12]) (by kernel_rfl) (by simp) ?_
              intro i hi
              obtain rfl := List.mem_singleton.1 hi
              refine wpOp_of rfl rfl ?_
              refine w_lay HM6 rfl rfl rfl (.s (.s (.s .z))) (.s (.s (.s .z))) aggRow.size (rcells_length _ _ _) (rcells_length _ _ _) (rcells_one _ _ _) rfl ?_
              intro w6 HM7
              refine ⟨HM7.out.forget.forget.forget.forget, ?_⟩
              clear HM6
              refine wpAnyH_all (rs := [13]) (by kernel_rfl) (by simp) ?_
              intro i hi
              obtain rfl := List.mem_singleton.1 hi
              refine wpOp_of rfl rfl ?_
              refine w_lay HM7 rfl rfl rfl (.s .z) (.s .z) aggRow.size (rcells_length _ _ _) (rcells_length _ _ _) (rcells_one _ _ _) rfl ?_
              intro w7 HM8
              refine ⟨HM8.out.forget.forget.forget.forget, ?_⟩
              clear HM7
              refine wpAnyH_done (by kernel_rfl) ?_ _
              go_wp2_with fail
              go_meet
              exact ⟨ha, hb_, _, rfl, rfl, HM8, Lib.hid (.s (.s (.s .z))), Lib.hid (.s .z)⟩
          · refine wpOp_of rfl rfl ?_
            refine w_alloc HM1 rfl zeroRow ?_
            intro w1 hb_ HM2
            refine ⟨HM2.out.forget.forget, ?_⟩
            clear HM1
            change wpAnyH _ _ _ _ _ _ _ (Act.put _ (some 13) _) _
            (try simp only [Act.put, List.setIfInBounds_toArray, List.set_cons_zero, List.set_cons_succ])
            refine wpAnyH_all (rs := [2]) (by kernel_rfl) (by simp) ?_
            intro i hi
            obtain rfl := List.mem_singleton.1 hi
            refine wpOp_of rfl rfl ?_
            refine w_call (f := 12) (args := #[.agg #[.slice p j cp, .slice a2 n2 c2], .agg #[.int .u8 0, .int .u8 (r1 : Int), .int .u8 (r2 : Int), .int .u8 (r3 : Int), .int .u8 (r4 : Int), .int .u8 126, .int .u8 0, .int .u8 (r7 : Int), .int .u8 (r8 : Int), .int .u8 (r9 : Int), .int .u8 (r10 : Int)]]) (fun w => rfl) (by go_simp) ?_
            refine (build_z p a2 j cp n2 c2 (mvA sp) tl r1 r2 r3 r4 r7 r8 r9 r10 _ (tri_now HR1.out (Own.rows1 (l := [_, _, _, _, _, _]) HM2.out) HSA1.out) (HT2.out.under (Own.fin HM2)) HC64.out L2.out yv HYV).mono ?_
            rintro e w2 ⟨gv, rfl, hg, hW, hb⟩
            have HM3 := Lib.hid (HM2.out.plus hb hg hW)
            refine ⟨_, rfl, HM3.out.forget.forget.forget, ?_⟩
            clear hg hW hb HM2
            change wpAnyH _ _ _ _ _ _ _ (Act.put _ (some 74) _) _
            (try simp only [Act.put, List.setIfInBounds_toArray, List.set_cons_zero, List.set_cons_succ])
            refine wpAnyH_all (rs := [4]) (by kernel_rfl) (by simp) ?_
            intro i hi
            obtain rfl := List.mem_singleton.1 hi
            refine wpOp_of rfl rfl ?_
            refine w_call (f := 15) (args := #[.slice (some ⟨gv, 0, none⟩) 16384 16384, .agg #[.int .u8 0, .int .u8 (r1 : Int), .int .u8 (r2 : Int), .int .u8 (r3 : Int), .int .u8 (r4 : Int), .int .u8 126, .int .u8 0, .int .u8 (r7 : Int), .int .u8 (r8 : Int), .int .u8 (r9 : Int), .int .u8 (r10 : Int)], .int .i64 40]) (fun w => rfl) (by go_simp) ?_
            refine (line_z _ 16384 16384 yv r1 r2 r3 r4 r7 r8 r9 r10 40 H1.out H40.out H40'.out fa ob cb hfa hoa hca _ (HM3.out.byteRow .z HVv.out)).mono ?_
            rintro e w3 ⟨rfl, hb⟩
            have HM4 := Lib.hid (HM3.out.call hb)
            refine ⟨_, rfl, HM4.out.forget.forget.forget, ?_⟩
            clear hb HM3
            change wpAnyH _ _ _ _ _ _ _ (Act.put _ (some 76) _) _
            (try simp only [Act.put, List.setIfInBounds_toArray, List.set_cons_zero, List.set_cons_succ])
            refine wpAnyH_all (rs := [7]) (by kernel_rfl) (by simp) ?_
            intro i hi
            obtain rfl := List.mem_singleton.1 hi
            refine wpOp_of rfl rfl ?_
            refine w_call (f := 12) (args := #[.agg #[.slice q j cq, .slice a2 n2 c2], .agg #[.int .u8 0, .int .u8 (r1 : Int), .int .u8 (r2 : Int), .int .u8 (r3 : Int), .int .u8 (r4 : Int), .int .u8 126, .int .u8 0, .int .u8 (r7 : Int), .int .u8 (r8 : Int), .int .u8 (r9 : Int), .int .u8 (r10 : Int)]]) (fun w => rfl) (by go_simp) ?_
            refine (build_z q a2 j cq n2 c2 (mvB sp nb) tl r1 r2 r3 r4 r7 r8 r9 r10 _ (tri_now HR2.out (Own.rows2 (l := [_, _, _, _, _, _, _]) HM4.out) HSB1.out) (HT2.out.under (Own.fin HM4)) HC64.out L2.out yw HYW).mono ?_
            rintro e w4 ⟨gw, rfl, hg, hW, hb⟩
            have HM5 := Lib.hid (HM4.out.plus hb hg hW)
            refine ⟨_, rfl, HM5.out.forget.forget.forget.forget, ?_⟩
            clear hg hW hb HM4
            change wpAnyH _ _ _ _ _ _ _ (Act.put _ (some 79) _) _
            (try simp only [Act.put, List.setIfInBounds_toArray, List.set_cons_zero, List.set_cons_succ])
            refine wpAnyH_all (rs := [9]) (by kernel_rfl) (by simp) ?_
            intro i hi
            obtain rfl := List.mem_singleton.1 hi
            refine wpOp_of rfl rfl ?_
            refine w_call (f := 15) (args := #[.slice (some ⟨gw, 0, none⟩) 16384 16384, .agg #[.int .u8 0, .int .u8 (r1 : Int), .int .u8 (r2 : Int), .int .u8 (r3 : Int), .int .u8 (r4 : Int), .int .u8 126, .int .u8 0, .int .u8 (r7 : Int), .int .u8 (r8 : Int), .int .u8 (r9 : Int), .int .u8 (r10 : Int)], .int .i64 40]) (fun w => rfl) (by go_simp) ?_
            refine (line_z _ 16384 16384 yw r1 r2 r3 r4 r7 r8 r9 r10 40 H1.out H40.out H40'.out fb ob cb hfb hob hcb _ (HM5.out.byteRow .z HVw.out)).mono ?_
            rintro e w5 ⟨rfl, hb⟩
            have HM6 := Lib.hid (HM5.out.call hb)
            refine ⟨_, rfl, HM6.out.forget.forget.forget.forget, ?_⟩
            clear hb HM5
            change wpAnyH _ _ _ _ _ _ _ (Act.put _ (some 81) _) _
            (try simp only [Act.put, List.setIfInBounds_toArray, List.set_cons_zero, List.set_cons_succ])
            refine wpAnyH_all (rs := [12]) (by kernel_rfl) (by simp) ?_
            intro i hi
            obtain rfl := List.mem_singleton.1 hi
            refine wpOp_of rfl rfl ?_
            refine w_lay HM6 rfl rfl rfl (.s (.s (.s .z))) (.s (.s (.s .z))) aggRow.size (rcells_length _ _ _) (rcells_length _ _ _) (rcells_one _ _ _) rfl ?_
            intro w6 HM7
            refine ⟨HM7.out.forget.forget.forget.forget, ?_⟩
            clear HM6
            refine wpAnyH_all (rs := [13]) (by kernel_rfl) (by simp) ?_
            intro i hi
            obtain rfl := List.mem_singleton.1 hi
            refine wpOp_of rfl rfl ?_
            refine w_lay HM7 rfl rfl rfl (.s (.s .z)) (.s (.s .z)) aggRow.size (rcells_length _ _ _) (rcells_length _ _ _) (rcells_one _ _ _) rfl ?_
            intro w7 HM8
            refine ⟨HM8.out.forget.forget.forget.forget, ?_⟩
            clear HM7
            refine wpAnyH_done (by kernel_rfl) ?_ _
            go_wp2_with fail
            go_meet
            exact ⟨ha, hb_, _, rfl, rfl, HM8, Lib.hid (.s (.s (.s .z))), Lib.hid (.s (.s .z))⟩
        · refine wpOp_of rfl rfl ?_
          refine w_alloc HM0 rfl zeroRow ?_
          intro w0 hb_ HM1
          refine ⟨HM1.out.forget, ?_⟩
          clear HM0
          change wpAnyH _ _ _ _ _ _ _ (Act.put _ (some 13) _) _
          (try simp only [Act.put, List.setIfInBounds_toArray, List.set_cons_zero, List.set_cons_succ])
          refine wpAnyH_all (rs := [2, 10]) (by kernel_rfl) (by simp) ?_
          intro i hi
          simp only [List.mem_cons, List.not_mem_nil, or_false] at hi
          rcases hi with rfl | rfl
          · refine wpOp_of rfl rfl ?_
            refine w_call (f := 12) (args := #[.agg #[.slice p j cp, .slice a2 n2 c2], .agg #[.int .u8 0, .int .u8 (r1 : Int), .int .u8 (r2 : Int), .int .u8 (r3 : Int), .int .u8 (r4 : Int), .int .u8 126, .int .u8 0, .int .u8 (r7 : Int), .int .u8 (r8 : Int), .int .u8 (r9 : Int), .int .u8 (r10 : Int)]]) (fun w => rfl) (by go_simp) ?_
            refine (build_z p a2 j cp n2 c2 (mvA sp) tl r1 r2 r3 r4 r7 r8 r9 r10 _ (tri_now HR1.out (Own.rows1 (l := [_, _, _, _, _]) HM1.out) HSA1.out) (HT2.out.under (Own.fin HM1)) HC64.out L2.out yv HYV).mono ?_
            rintro e w1 ⟨gv, rfl, hg, hW, hb⟩
            have HM2 := Lib.hid (HM1.out.plus hb hg hW)
            refine ⟨_, rfl, HM2.out.forget.forget, ?_⟩
            clear hg hW hb HM1
            change wpAnyH _ _ _ _ _ _ _ (Act.put _ (some 74) _) _
            (try simp only [Act.put, List.setIfInBounds_toArray, List.set_cons_zero, List.set_cons_succ])
            refine wpAnyH_all (rs := [4, 10]) (by kernel_rfl) (by simp) ?_
            intro i hi
            simp only [List.mem_cons, List.not_mem_nil, or_false] at hi
            rcases hi with rfl | rfl
            · refine wpOp_of rfl rfl ?_
              refine w_call (f := 15) (args := #[.slice (some ⟨gv, 0, none⟩) 16384 16384, .agg #[.int .u8 0, .int .u8 (r1 : Int), .int .u8 (r2 : Int), .int .u8 (r3 : Int), .int .u8 (r4 : Int), .int .u8 126, .int .u8 0, .int .u8 (r7 : Int), .int .u8 (r8 : Int), .int .u8 (r9 : Int), .int .u8 (r10 : Int)], .int .i64 40]) (fun w => rfl) (by go_simp) ?_
              refine (line_z _ 16384 16384 yv r1 r2 r3 r4 r7 r8 r9 r10 40 H1.out H40.out H40'.out fa ob cb hfa hoa hca _ (HM2.out.byteRow .z HVv.out)).mono ?_
              rintro e w2 ⟨rfl, hb⟩
              have HM3 := Lib.hid (HM2.out.call hb)
              refine ⟨_, rfl, HM3.out.forget.forget, ?_⟩
              clear hb HM2
              change wpAnyH _ _ _ _ _ _ _ (Act.put _ (some 76) _) _
              (try simp only [Act.put, List.setIfInBounds_toArray, List.set_cons_zero, List.set_cons_succ])
              refine wpAnyH_all (rs := [7, 10]) (by kernel_rfl) (by simp) ?_
              intro i hi
              simp only [List.mem_cons, List.not_mem_nil, or_false] at hi
              rcases hi with rfl | rfl
              · refine wpOp_of rfl rfl ?_
                refine w_call (f := 12) (args := #[.agg #[.slice q j cq, .slice a2 n2 c2], .agg #[.int .u8 0, .int .u8 (r1 : Int), .int .u8 (r2 : Int), .int .u8 (r3 : Int), .int .u8 (r4 : Int), .int .u8 126, .int .u8 0, .int .u8 (r7 : Int), .int .u8 (r8 : Int), .int .u8 (r9 : Int), .int .u8 (r10 : Int)]]) (fun w => rfl) (by go_simp) ?_
                refine (build_z q a2 j cq n2 c2 (mvB sp nb) tl r1 r2 r3 r4 r7 r8 r9 r10 _ (tri_now HR2.out (Own.rows2 (l := [_, _, _, _, _, _]) HM3.out) HSB1.out) (HT2.out.under (Own.fin HM3)) HC64.out L2.out yw HYW).mono ?_
                rintro e w3 ⟨gw, rfl, hg, hW, hb⟩
                have HM4 := Lib.hid (HM3.out.plus hb hg hW)
                refine ⟨_, rfl, HM4.out.forget.forget.forget, ?_⟩
                clear hg hW hb HM3
                change wpAnyH _ _ _ _ _ _ _ (Act.put _ (some 79) _) _
                (try simp only [Act.put, List.setIfInBounds_toArray, List.set_cons_zero, List.set_cons_succ])
                refine wpAnyH_all (rs := [9, 10]) (by kernel_rfl) (by simp) ?_
                intro i hi
                simp only [List.mem_cons, List.not_mem_nil, or_false] at hi
                rcases hi with rfl | rfl
                · refine wpOp_of rfl rfl ?_
                  refine w_call (f := 15) (args := #[.slice (some ⟨gw, 0, none⟩) 16384 16384, .agg #[.int .u8 0, .int .u8 (r1 : Int), .int .u8 (r2 : Int), .int .u8 (r3 : Int), .int .u8 (r4 : Int), .int .u8 126, .int .u8 0, .int .u8 (r7 : Int), .int .u8 (r8 : Int), .int .u8 (r9 : Int), .int .u8 (r10 : Int)], .int .i64 40]) (fun w => rfl) (by go_simp) ?_
                  refine (line_z _ 16384 16384 yw r1 r2 r3 r4 r7 r8 r9 r10 40 H1.out H40.out H40'.out fb ob cb hfb hob hcb _ (HM4.out.byteRow .z HVw.out)).mono ?_
                  rintro e w4 ⟨rfl, hb⟩
                  have HM5 := Lib.hid (HM4.out.call hb)
                  refine ⟨_, rfl, HM5.out.forget.forget.forget, ?_⟩
                  clear hb HM4
                  change wpAnyH _ _ _ _ _ _ _ (Act.put _ (some 81) _) _
                  (try simp only [Act.put, List.setIfInBounds_toArray, List.set_cons_zero, List.set_cons_succ])
                  refine wpAnyH_all (rs := [10]) (by kernel_rfl) (by simp) ?_
                  intro i hi
                  obtain rfl := List.mem_singleton.1 hi
                  refine wpOp_of rfl rfl ?_
                  refine w_alloc HM5 rfl zeroRow ?_
                  intro w5 ha HM6
                  refine ⟨HM6.out.forget.forget.forget.forget, ?_⟩
                  clear HM5
                  change wpAnyH _ _ _ _ _ _ _ (Act.put _ (some 12) _) _
                  (try simp only [Act.put, List.setIfInBounds_toArray, List.set_cons_zero, List.set_cons_succ])
                  refine wpAnyH_all (rs := [12]) (by kernel_rfl) (by simp) ?_
                  intro i hi
                  obtain rfl := List.mem_singleton.1 hi
                  refine wpOp_of rfl rfl ?_
                  refine w_lay HM6 rfl rfl rfl .z .z aggRow.size (rcells_length _ _ _) (rcells_length _ _ _) (rcells_one _ _ _) rfl ?_
                  intro w6 HM7
                  refine ⟨HM7.out.forget.forget.forget.forget, ?_⟩
                  clear HM6
                  refine wpAnyH_all (rs := [13]) (by kernel_rfl) (by simp) ?_
                  intro i hi
                  obtain rfl := List.mem_singleton.1 hi
                  refine wpOp_of rfl rfl ?_
                  refine w_lay HM7 rfl rfl rfl (.s (.s (.s .z))) (.s (.s (.s .z))) aggRow.size (rcells_length _ _ _) (rcells_length _ _ _) (rcells_one _ _ _) rfl ?_
                  intro w7 HM8
                  refine ⟨HM8.out.forget.forget.forget.forget, ?_⟩
                  clear HM7
                  refine wpAnyH_done (by kernel_rfl) ?_ _
                  go_wp2_with fail
                  go_meet
                  exact ⟨ha, hb_, _, rfl, rfl, HM8, Lib.hid .z, Lib.hid (.s (.s (.s .z)))⟩
                · refine wpOp_of rfl rfl ?_
                  refine w_alloc HM4 rfl zeroRow ?_
                  intro w4 ha HM5
                  refine ⟨HM5.out.forget.forget.forget.forget, ?_⟩
                  clear HM4
                  change wpAnyH _ _ _ _ _ _ _ (Act.put _ (some 12) _) _
                  (try simp only [Act.put, List.setIfInBounds_toArray, List.set_cons_zero, List.set_cons_succ])
                  refine wpAnyH_all (rs := [9]) (by kernel_rfl) (by simp) ?_
                  intro i hi
                  obtain rfl := List.mem_singleton.1 hi
                  refine wpOp_of rfl rfl ?_
                  refine w_call (f := 15) (args := #[.slice (some ⟨gw, 0, none⟩) 16384 16384, .agg #[.int .u8 0, .int .u8 (r1 : Int), .int .u8 (r2 : Int), .int .u8 (r3 : Int), .int .u8 (r4 : Int), .int .u8 126, .int .u8 0, .int .u8 (r7 : Int), .int .u8 (r8 : Int), .int .u8 (r9 : Int), .int .u8 (r10 : Int)], .int .i64 40]) (fun w => rfl) (by go_simp) ?_
                  refine (line_z _ 16384 16384 yw r1 r2 r3 r4 r7 r8 r9 r10 40 H1.out H40.out H40'.out fb ob cb hfb hob hcb _ (HM5.out.byteRow (.s .z) HVw.out)).mono ?_
                  rintro e w5 ⟨rfl, hb⟩
                  have HM6 := Lib.hid (HM5.out.call hb)
                  refine ⟨_, rfl, HM6.out.forget.forget.forget.forget, ?_⟩
                  clear hb HM5
                  change wpAnyH _ _ _ _ _ _ _ (Act.put _ (some 81) _) _
                  (try simp only [Act.put, List.setIfInBounds_toArray, List.set_cons_zero, List.set_cons_succ])
                  refine wpAnyH_all (rs := [12]) (by kernel_rfl) (by simp) ?_
                  intro i hi
                  obtain rfl := List.mem_singleton.1 hi
                  refine wpOp_of rfl rfl ?_
                  refine w_lay HM6 rfl rfl rfl .z .z aggRow.size (rcells_length _ _ _) (rcells_length _ _ _) (rcells_one _ _ _) rfl ?_
                  intro w6 HM7
                  refine ⟨HM7.out.forget.forget.forget.forget, ?_⟩
                  clear HM6
                  refine wpAnyH_all (rs := [13]) (by kernel_rfl) (by simp) ?_
                  intro i hi
                  obtain rfl := List.mem_singleton.1 hi
                  refine wpOp_of rfl rfl ?_
                  refine w_lay HM7 rfl rfl rfl (.s (.s (.s .z))) (.s (.s (.s .z))) aggRow.size (rcells_length _ _ _) (rcells_length _ _ _) (rcells_one _ _ _) rfl ?_
                  intro w7 HM8
                  refine ⟨HM8.out.forget.forget.forget.forget, ?_⟩
                  clear HM7
                  refine wpAnyH_done (by kernel_rfl) ?_ _
                  go_wp2_with fail
                  go_meet
                  exact ⟨ha, hb_, _, rfl, rfl, HM8, Lib.hid .z, Lib.hid (.s (.s (.s .z)))⟩
              · refine wpOp_of rfl rfl ?_
                refine w_alloc HM3 rfl zeroRow ?_
                intro w3 ha HM4
                refine ⟨HM4.out.forget.forget.forget, ?_⟩
                clear HM3
                change wpAnyH _ _ _ _ _ _ _ (Act.put _ (some 12) _) _
                (try simp only [Act.put, List.setIfInBounds_toArray, List.set_cons_zero, List.set_cons_succ])
                refine wpAnyH_all (rs := [7]) (by kernel_rfl) (by simp) ?_
                intro i hi
                obtain rfl := List.mem_singleton.1 hi
                refine wpOp_of rfl rfl ?_
                refine w_call (f := 12) (args := #[.agg #[.slice q j cq, .slice a2 n2 c2], .agg #[.int .u8 0, .int .u8 (r1 : Int), .int .u8 (r2 : Int), .int .u8 (r3 : Int), .int .u8 (r4 : Int), .int .u8 126, .int .u8 0, .int .u8 (r7 : Int), .int .u8 (r8 : Int), .int .u8 (r9 : Int), .int .u8 (r10 : Int)]]) (fun w => rfl) (by go_simp) ?_
                refine (build_z q a2 j cq n2 c2 (mvB sp nb) tl r1 r2 r3 r4 r7 r8 r9 r10 _ (tri_now HR2.out (Own.rows2 (l := [_, _, _, _, _, _, _]) HM4.out) HSB1.out) (HT2.out.under (Own.fin HM4)) HC64.out L2.out yw HYW).mono ?_
                rintro e w4 ⟨gw, rfl, hg, hW, hb⟩
                have HM5 := Lib.hid (HM4.out.plus hb hg hW)
                refine ⟨_, rfl, HM5.out.forget.forget.forget.forget, ?_⟩
                clear hg hW hb HM4
                change wpAnyH _ _ _ _ _ _ _ (Act.put _ (some 79) _) _
                (try simp only [Act.put, List.setIfInBounds_toArray, List.set_cons_zero, List.set_cons_succ])
                refine wpAnyH_all (rs := [9]) (by kernel_rfl) (by simp) ?_
                intro i hi
                obtain rfl := List.mem_singleton.1 hi
                refine wpOp_of rfl rfl ?_
                refine w_call (f := 15) (args := #[.slice (some ⟨gw, 0, none⟩) 16384 16384, .agg #[.int .u8 0, .int .u8 (r1 : Int), .int .u8 (r2 : Int), .int .u8 (r3 : Int), .int .u8 (r4 : Int), .int .u8 126, .int .u8 0, .int .u8 (r7 : Int), .int .u8 (r8 : Int), .int .u8 (r9 : Int), .int .u8 (r10 : Int)], .int .i64 40]) (fun w => rfl) (by go_simp) ?_
                refine (line_z _ 16384 16384 yw r1 r2 r3 r4 r7 r8 r9 r10 40 H1.out H40.out H40'.out fb ob cb hfb hob hcb _ (HM5.out.byteRow .z HVw.out)).mono ?_
                rintro e w5 ⟨rfl, hb⟩
                have HM6 := Lib.hid (HM5.out.call hb)
                refine ⟨_, rfl, HM6.out.forget.forget.forget.forget, ?_⟩
                clear hb HM5
                change wpAnyH _ _ _ _ _ _ _ (Act.put _ (some 81) _) _
                (try simp only [Act.put, List.setIfInBounds_toArray, List.set_cons_zero, List.set_cons_succ])
                refine wpAnyH_all (rs := [12]) (by kernel_rfl) (by simp) ?_
                intro i hi
                obtain rfl := List.mem_singleton.1 hi
                refine wpOp_of rfl rfl ?_
                refine w_lay HM6 rfl rfl rfl (.s .z) (.s .z) aggRow.size (rcells_length _ _ _) (rcells_length _ _ _) (rcells_one _ _ _) rfl ?_
                intro w6 HM7
                refine ⟨HM7.out.forget.forget.forget.forget, ?_⟩
                clear HM6
                refine wpAnyH_all (rs := [13]) (by kernel_rfl) (by simp) ?_
                intro i hi
                obtain rfl := List.mem_singleton.1 hi
                refine wpOp_of rfl rfl ?_
                refine w_lay HM7 rfl rfl rfl (.s (.s (.s .z))) (.s (.s (.s .z))) aggRow.size (rcells_length _ _ _) (rcells_length _ _ _) (rcells_one _ _ _) rfl ?_
                intro w7 HM8
                refine ⟨HM8.out.forget.forget.forget.forget, ?_⟩
                clear HM7
                refine wpAnyH_done (by kernel_rfl) ?_ _
                go_wp2_with fail
                go_meet
                exact ⟨ha, hb_, _, rfl, rfl, HM8, Lib.hid (.s .z), Lib.hid (.s (.s (.s .z)))⟩
            · refine wpOp_of rfl rfl ?_
              refine w_alloc HM2 rfl zeroRow ?_
              intro w2 ha HM3
              refine ⟨HM3.out.forget.forget.forget, ?_⟩
              clear HM2
              change wpAnyH _ _ _ _ _ _ _ (Act.put _ (some 12) _) _
              (try simp only [Act.put, List.setIfInBounds_toArray, List.set_cons_zero, List.set_cons_succ])
              refine wpAnyH_all (rs := [4]) (by kernel_rfl) (by simp) ?_
              intro i hi
              obtain rfl := List.mem_singleton.1 hi
              refine wpOp_of rfl rfl ?_
              refine w_call (f := 15) (args := #[.slice (some ⟨gv, 0, none⟩) 16384 16384, .agg #[.int .u8 0, .int .u8 (r1 : Int), .int .u8 (r2 : Int), .int .u8 (r3 : Int), .int .u8 (r4 : Int), .int .u8 126, .int .u8 0, .int .u8 (r7 : Int), .int .u8 (r8 : Int), .int .u8 (r9 : Int), .int .u8 (r10 : Int)], .int .i64 40]) (fun w => rfl) (by go_simp) ?_
              refine (line_z _ 16384 16384 yv r1 r2 r3 r4 r7 r8 r9 r10 40 H1.out H40.out H40'.out fa ob cb hfa hoa hca _ (HM3.out.byteRow (.s .z) HVv.out)).mono ?_
              rintro e w3 ⟨rfl, hb⟩
              have HM4 := Lib.hid (HM3.out.call hb)
              refine ⟨_, rfl, HM4.out.forget.forget.forget, ?_⟩
              clear hb HM3
              change wpAnyH _ _ _ _ _ _ _ (Act.put _ (some 76) _) _
              (try simp only [Act.put, List.setIfInBounds_toArray, List.set_cons_zero, List.set_cons_succ])
              refine wpAnyH_all (rs := [7]) (by kernel_rfl) (by simp) ?_
              intro i hi
              obtain rfl := List.mem_singleton.1 hi
              refine wpOp_of rfl rfl ?_
              refine w_call (f := 12) (args := #[.agg #[.slice q j cq, .slice a2 n2 c2], .agg #[.int .u8 0, .int .u8 (r1 : Int), .int .u8 (r2 : Int), .int .u8 (r3 : Int), .int .u8 (r4 : Int), .int .u8 126, .int .u8 0, .int .u8 (r7 : Int), .int .u8 (r8 : Int), .int .u8 (r9 : Int), .int .u8 (r10 : Int)]]) (fun w => rfl) (by go_simp) ?_
              refine (build_z q a2 j cq n2 c2 (mvB sp nb) tl r1 r2 r3 r4 r7 r8 r9 r10 _ (tri_now HR2.out (Own.rows2 (l := [_, _, _, _, _, _, _]) HM4.out) HSB1.out) (HT2.out.under (Own.fin HM4)) HC64.out L2.out yw HYW).mono ?_
              rintro e w4 ⟨gw, rfl, hg, hW, hb⟩
              have HM5 := Lib.hid (HM4.out.plus hb hg hW)
              refine ⟨_, rfl, HM5.out.forget.forget.forget.forget, ?_⟩
              clear hg hW hb HM4
              change wpAnyH _ _ _ _ _ _ _ (Act.put _ (some 79) _) _
              (try simp only [Act.put, List.setIfInBounds_toArray, List.set_cons_zero, List.set_cons_succ])
              refine wpAnyH_all (rs := [9]) (by kernel_rfl) (by simp) ?_
              intro i hi
              obtain rfl := List.mem_singleton.1 hi
              refine wpOp_of rfl rfl ?_
              refine w_call (f := 15) (args := #[.slice (some ⟨gw, 0, none⟩) 16384 16384, .agg #[.int .u8 0, .int .u8 (r1 : Int), .int .u8 (r2 : Int), .int .u8 (r3 : Int), .int .u8 (r4 : Int), .int .u8 126, .int .u8 0, .int .u8 (r7 : Int), .int .u8 (r8 : Int), .int .u8 (r9 : Int), .int .u8 (r10 : Int)], .int .i64 40]) (fun w => rfl) (by go_simp) ?_
              refine (line_z _ 16384 16384 yw r1 r2 r3 r4 r7 r8 r9 r10 40 H1.out H40.out H40'.out fb ob cb hfb hob hcb _ (HM5.out.byteRow .z HVw.out)).mono ?_
              rintro e w5 ⟨rfl, hb⟩
              have HM6 := Lib.hid (HM5.out.call hb)
              refine ⟨_, rfl, HM6.out.forget.forget.forget.forget, ?_⟩
              clear hb HM5
              change wpAnyH _ _ _ _ _ _ _ (Act.put _ (some 81) _) _
              (try simp only [Act.put, List.setIfInBounds_toArray, List.set_cons_zero, List.set_cons_succ])
              refine wpAnyH_all (rs := [12]) (by kernel_rfl) (by simp) ?_
              intro i hi
              obtain rfl := List.mem_singleton.1 hi
              refine wpOp_of rfl rfl ?_
              refine w_lay HM6 rfl rfl rfl (.s .z) (.s .z) aggRow.size (rcells_length _ _ _) (rcells_length _ _ _) (rcells_one _ _ _) rfl ?_
              intro w6 HM7
              refine ⟨HM7.out.forget.forget.forget.forget, ?_⟩
              clear HM6
              refine wpAnyH_all (rs := [13]) (by kernel_rfl) (by simp) ?_
              intro i hi
              obtain rfl := List.mem_singleton.1 hi
              refine wpOp_of rfl rfl ?_
              refine w_lay HM7 rfl rfl rfl (.s (.s (.s .z))) (.s (.s (.s .z))) aggRow.size (rcells_length _ _ _) (rcells_length _ _ _) (rcells_one _ _ _) rfl ?_
              intro w7 HM8
              refine ⟨HM8.out.forget.forget.forget.forget, ?_⟩
              clear HM7
              refine wpAnyH_done (by kernel_rfl) ?_ _
              go_wp2_with fail
              go_meet
              exact ⟨ha, hb_, _, rfl, rfl, HM8, Lib.hid (.s .z), Lib.hid (.s (.s (.s .z)))⟩
          · refine wpOp_of rfl rfl ?_
            refine w_alloc HM1 rfl zeroRow ?_
            intro w1 ha HM2
            refine ⟨HM2.out.forget.forget, ?_⟩
            clear HM1
            change wpAnyH _ _ _ _ _ _ _ (Act.put _ (some 12) _) _
            (try simp only [Act.put, List.setIfInBounds_toArray, List.set_cons_zero, List.set_cons_succ])
            refine wpAnyH_all (rs := [2]) (by kernel_rfl) (by simp) ?_
            intro i hi
            obtain rfl := List.mem_singleton.1 hi
            refine wpOp_of rfl rfl ?_
            refine w_call (f := 12) (args := #[.agg #[.slice p j cp, .slice a2 n2 c2], .agg #[.int .u8 0, .int .u8 (r1 : Int), .int .u8 (r2 : Int), .int .u8 (r3 : Int), .int .u8 (r4 : Int), .int .u8 126, .int .u8 0, .int .u8 (r7 : Int), .int .u8 (r8 : Int), .int .u8 (r9 : Int), .int .u8 (r10 : Int)]]) (fun w => rfl) (by go_simp) ?_
            refine (build_z p a2 j cp n2 c2 (mvA sp) tl r1 r2 r3 r4 r7 r8 r9 r10 _ (tri_now HR1.out (Own.rows1 (l := [_, _, _, _, _, _]) HM2.out) HSA1.out) (HT2.out.under (Own.fin HM2)) HC64.out L2.out yv HYV).mono ?_
            rintro e w2 ⟨gv, rfl, hg, hW, hb⟩
            have HM3 := Lib.hid (HM2.out.plus hb hg hW)
            refine ⟨_, rfl, HM3.out.forget.forget.forget, ?_⟩
            clear hg hW hb HM2
            change wpAnyH _ _ _ _ _ _ _ (Act.put _ (some 74) _) _
            (try simp only [Act.put, List.setIfInBounds_toArray, List.set_cons_zero, List.set_cons_succ])
            refine wpAnyH_all (rs := [4]) (by kernel_rfl) (by simp) ?_
            intro i hi
            obtain rfl := List.mem_singleton.1 hi
            refine wpOp_of rfl rfl ?_
            refine w_call (f := 15) (args := #[.slice (some ⟨gv, 0, none⟩) 16384 16384, .agg #[.int .u8 0, .int .u8 (r1 : Int), .int .u8 (r2 : Int), .int .u8 (r3 : Int), .int .u8 (r4 : Int), .int .u8 126, .int .u8 0, .int .u8 (r7 : Int), .int .u8 (r8 : Int), .int .u8 (r9 : Int), .int .u8 (r10 : Int)], .int .i64 40]) (fun w => rfl) (by go_simp) ?_
            refine (line_z _ 16384 16384 yv r1 r2 r3 r4 r7 r8 r9 r10 40 H1.out H40.out H40'.out fa ob cb hfa hoa hca _ (HM3.out.byteRow .z HVv.out)).mono ?_
            rintro e w3 ⟨rfl, hb⟩
            have HM4 := Lib.hid (HM3.out.call hb)
            refine ⟨_, rfl, HM4.out.forget.forget.forget, ?_⟩
            clear hb HM3
            change wpAnyH _ _ _ _ _ _ _ (Act.put _ (some 76) _) _
            (try simp only [Act.put, List.setIfInBounds_toArray, List.set_cons_zero, List.set_cons_succ])
            refine wpAnyH_all (rs := [7]) (by kernel_rfl) (by simp) ?_
            intro i hi
            obtain rfl := List.mem_singleton.1 hi
            refine wpOp_of rfl rfl ?_
            refine w_call (f := 12) (args := #[.agg #[.slice q j cq, .slice a2 n2 c2], .agg #[.int .u8 0, .int .u8 (r1 : Int), .int .u8 (r2 : Int), .int .u8 (r3 : Int), .int .u8 (r4 : Int), .int .u8 126, .int .u8 0, .int .u8 (r7 : Int), .int .u8 (r8 : Int), .int .u8 (r9 : Int), .int .u8 (r10 : Int)]]) (fun w => rfl) (by go_simp) ?_
            refine (build_z q a2 j cq n2 c2 (mvB sp nb) tl r1 r2 r3 r4 r7 r8 r9 r10 _ (tri_now HR2.out (Own.rows2 (l := [_, _, _, _, _, _, _]) HM4.out) HSB1.out) (HT2.out.under (Own.fin HM4)) HC64.out L2.out yw HYW).mono ?_
            rintro e w4 ⟨gw, rfl, hg, hW, hb⟩
            have HM5 := Lib.hid (HM4.out.plus hb hg hW)
            refine ⟨_, rfl, HM5.out.forget.forget.forget.forget, ?_⟩
            clear hg hW hb HM4
            change wpAnyH _ _ _ _ _ _ _ (Act.put _ (some 79) _) _
            (try simp only [Act.put, List.setIfInBounds_toArray, List.set_cons_zero, List.set_cons_succ])
            refine wpAnyH_all (rs := [9]) (by kernel_rfl) (by simp) ?_
            intro i hi
            obtain rfl := List.mem_singleton.1 hi
            refine wpOp_of rfl rfl ?_
            refine w_call (f := 15) (args := #[.slice (some ⟨gw, 0, none⟩) 16384 16384, .agg #[.int .u8 0, .int .u8 (r1 : Int), .int .u8 (r2 : Int), .int .u8 (r3 : Int), .int .u8 (r4 : Int), .int .u8 126, .int .u8 0, .int .u8 (r7 : Int), .int .u8 (r8 : Int), .int .u8 (r9 : Int), .int .u8 (r10 : Int)], .int .i64 40]) (fun w => rfl) (by go_simp) ?_
            refine (line_z _ 16384 16384 yw r1 r2 r3 r4 r7 r8 r9 r10 40 H1.out H40.out H40'.out fb ob cb hfb hob hcb _ (HM5.out.byteRow .z HVw.out)).mono ?_
            rintro e w5 ⟨rfl, hb⟩
            have HM6 := Lib.hid (HM5.out.call hb)
            refine ⟨_, rfl, HM6.out.forget.forget.forget.forget, ?_⟩
            clear hb HM5
            change wpAnyH _ _ _ _ _ _ _ (Act.put _ (some 81) _) _
            (try simp only [Act.put, List.setIfInBounds_toArray, List.set_cons_zero, List.set_cons_succ])
            refine wpAnyH_all (rs := [12]) (by kernel_rfl) (by simp) ?_
            intro i hi
            obtain rfl := List.mem_singleton.1 hi
            refine wpOp_of rfl rfl ?_
            refine w_lay HM6 rfl rfl rfl (.s (.s .z)) (.s (.s .z)) aggRow.size (rcells_length _ _ _) (rcells_length _ _ _) (rcells_one _ _ _) rfl ?_
            intro w6 HM7
            refine ⟨HM7.out.forget.forget.forget.forget, ?_⟩
            clear HM6
            refine wpAnyH_all (rs := [13]) (by kernel_rfl) (by simp) ?_
            intro i hi
            obtain rfl := List.mem_singleton.1 hi
            refine wpOp_of rfl rfl ?_
            refine w_lay HM7 rfl rfl rfl (.s (.s (.s .z))) (.s (.s (.s .z))) aggRow.size (rcells_length _ _ _) (rcells_length _ _ _) (rcells_one _ _ _) rfl ?_
            intro w7 HM8
            refine ⟨HM8.out.forget.forget.forget.forget, ?_⟩
            clear HM7
            refine wpAnyH_done (by kernel_rfl) ?_ _
            go_wp2_with fail
            go_meet
            exact ⟨ha, hb_, _, rfl, rfl, HM8, Lib.hid (.s (.s .z)), Lib.hid (.s (.s (.s .z)))⟩
      case' rest =>
        clear HM
        obtain ⟨ha, hb_, l, rfl, rfl, HM, HSA, HSB⟩ := hcut
        go_upto_region 19 with fail
        go_loopw [14] (fun i wr => ∃ k : Nat, k ≤ 256 ∧ i = .int .i64 (k : Int) ∧ Hid (Own w wr l)) (fun i _ => 256 - (intOf i).toNat)
        case atStart => exact ⟨0, by omega, rfl, HM⟩
        case round =>
          clear HM
          obtain ⟨k, hk, rfl, HM⟩ := hrel
          by_cases hlt : k < 256
          · have hlt' : (k : Int) < 256 := by omega
            have nb60 : (nb : Int) < 60 := by have := HNB.out; omega
            obtain ⟨v, hv⟩ : ∃ v, Hid (fa k = v) := ⟨_, rfl⟩
            have G0 : Hid ((rcells fa ob cb)[k]? = some (.int .u8 (v : Int))) := Lib.hid (by rw [rcells_color _ _ _ k hlt, hv.out])
            obtain ⟨s, hs⟩ : ∃ s, k + nb = s := ⟨_, rfl⟩
            have S1 : (k : Int) + (nb : Int) = (s : Int) := by omega
            have HS_ := Lib.hid hs
            by_cases c1 : k < nb
            · have G1 : Hid ((rcells fb ob cb)[k]? = some (.int .u8 0)) := Lib.hid (by rw [rcells_color _ _ _ k hlt, CN.out k c1]; rfl)
              have G2 : Hid ((rcells fb ob cb)[s]? = some (.int .u8 (v : Int))) := Lib.hid (by rw [rcells_color _ _ _ s (by omega), ← hs, CM.out k, hv.out])
              have KA : ((k : Int) < (nb : Int)) = True := eq_true (by omega)
              have KB : ((s : Int) < 256) = True := eq_true (by omega)
              have s256 : (s : Int) < 256 := by omega
              clear hlt hk hs c1
              go_upto_region 21 with fail
              (refine own_region HM (by kernel_rfl) (by kernel_rfl) ?_; (try simp only [Act.put, List.setIfInBounds_toArray, List.set_cons_zero, List.set_cons_succ]); repeat ((fail_if_success (with_reducible refine wpQuiet_nil ?_)); first | go_big_quiet_skip | (go_big_quiet_want; first | ((with_reducible apply quiet_get); exact rfl; (first | (with_reducible exact oneU8) | (with_reducible exact oneU16) | (with_reducible exact oneBool)); (first | with_reducible exact .z | with_reducible exact .s .z | with_reducible exact .s (.s .z) | with_reducible exact .s (.s (.s .z)) | with_reducible exact .s (.s (.s (.s .z))) | with_reducible exact .s (.s (.s (.s (.s .z)))) | with_reducible exact .s (.s (.s (.s (.s (.s .z))))) | with_reducible exact HSA.out | with_reducible exact HSB.out | with_reducible exact HSC.out | with_reducible exact HSD.out); (first | exact G0.out | exact G1.out | exact G2.out); go_big_quiet_op; go_big_quiet_on) | (go_big_quiet_op; go_big_quiet_on) | (go_big_quiet_op; go_big_quiet_on) | (go_big_quiet_op; refine ⟨_, fun _ _ => rfl, ?_⟩; go_big_quiet_on))))
              refine wpQuiet_nil ?_
              intro w' HM'
              clear HM; have HM := HM'; clear HM'
              go_wp2_with fail
              go_roundw
              case rel => exact ⟨k + 1, by omega, by go_num, HM⟩
              case measure => simp [intOf]; omega
            · have KA : ((k : Int) < (nb : Int)) = False := eq_false (by omega)
              by_cases c2 : s < 256
              · have G2 : Hid ((rcells fb ob cb)[s]? = some (.int .u8 (v : Int))) := Lib.hid (by rw [rcells_color _ _ _ s c2, ← hs, CM.out k, hv.out])
                have KB : ((s : Int) < 256) = True := eq_true (by omega)
                have s256 : (s : Int) < 256 := by omega
                clear hlt hk hs c1 c2
                go_upto_region 21 with fail
                (refine own_region HM (by kernel_rfl) (by kernel_rfl) ?_; (try simp only [Act.put, List.setIfInBounds_toArray, List.set_cons_zero, List.set_cons_succ]); repeat ((fail_if_success (with_reducible refine wpQuiet_nil ?_)); first | go_big_quiet_skip | (go_big_quiet_want; first | ((with_reducible apply quiet_get); exact rfl; (first | (with_reducible exact oneU8) | (with_reducible exact oneU16) | (with_reducible exact oneBool)); (first | with_reducible exact .z | with_reducible exact .s .z | with_reducible exact .s (.s .z) | with_reducible exact .s (.s (.s .z)) | with_reducible exact .s (.s (.s (.s .z))) | with_reducible exact .s (.s (.s (.s (.s .z)))) | with_reducible exact .s (.s (.s (.s (.s (.s .z))))) | with_reducible exact HSA.out | with_reducible exact HSB.out | with_reducible exact HSC.out | with_reducible exact HSD.out); (first | exact G0.out | exact G2.out); go_big_quiet_op; go_big_quiet_on) | (go_big_quiet_op; go_big_quiet_on) | (go_big_quiet_op; go_big_quiet_on) | (go_big_quiet_op; refine ⟨_, fun _ _ => rfl, ?_⟩; go_big_quiet_on))))
                refine wpQuiet_nil ?_
                intro w' HM'
                clear HM; have HM := HM'; clear HM'
                go_wp2_with fail
                go_roundw
                case rel => exact ⟨k + 1, by omega, by go_num, HM⟩
                case measure => simp [intOf]; omega
              · have KB : ((s : Int) < 256) = False := eq_false (by omega)
                clear hlt hk hs c1 c2
                go_upto_region 21 with fail
                (refine own_region HM (by kernel_rfl) (by kernel_rfl) ?_; (try simp only [Act.put, List.setIfInBounds_toArray, List.set_cons_zero, List.set_cons_succ]); repeat ((fail_if_success (with_reducible refine wpQuiet_nil ?_)); first | go_big_quiet_skip | (go_big_quiet_want; first | ((with_reducible apply quiet_get); exact rfl; (first | (with_reducible exact oneU8) | (with_reducible exact oneU16) | (with_reducible exact oneBool)); (first | with_reducible exact .z | with_reducible exact .s .z | with_reducible exact .s (.s .z) | with_reducible exact .s (.s (.s .z)) | with_reducible exact .s (.s (.s (.s .z))) | with_reducible exact .s (.s (.s (.s (.s .z)))) | with_reducible exact .s (.s (.s (.s (.s (.s .z))))) | with_reducible exact HSA.out | with_reducible exact HSB.out | with_reducible exact HSC.out | with_reducible exact HSD.out); (first | exact G0.out); go_big_quiet_op; go_big_quiet_on) | (go_big_quiet_op; go_big_quiet_on) | (go_big_quiet_op; go_big_quiet_on) | (go_big_quiet_op; refine ⟨_, fun _ _ => rfl, ?_⟩; go_big_quiet_on))))
                refine wpQuiet_nil ?_
                intro w' HM'
                clear HM; have HM := HM'; clear HM'
                go_wp2_with fail
                go_roundw
                case rel => exact ⟨k + 1, by omega, by go_num, HM⟩
                case measure => simp [intOf]; omega
          · obtain rfl : k = 256 := by omega
            clear hlt hk
            have G0 : Hid ((rcells fa ob cb)[256]? = some (.bool ob)) := Lib.hid (rcells_over _ _ _)
            have G1 : Hid ((rcells fa ob cb)[257]? = some (.bool cb)) := Lib.hid (rcells_meets _ _ _)
            have G2 : Hid ((rcells fb ob cb)[256]? = some (.bool ob)) := Lib.hid (rcells_over _ _ _)
            have G3 : Hid ((rcells fb ob cb)[257]? = some (.bool cb)) := Lib.hid (rcells_meets _ _ _)
            go_upto_region 23 with fail
            (refine own_inorder HM ?_; (try simp only [Act.put, List.setIfInBounds_toArray, List.set_cons_zero, List.set_cons_succ]); repeat ((fail_if_success (with_reducible refine wpQuiet_nil ?_)); first | go_big_quiet_skip | (go_big_quiet_want; first | ((with_reducible apply quiet_get); exact rfl; (first | (with_reducible exact oneU8) | (with_reducible exact oneU16) | (with_reducible exact oneBool)); (first | with_reducible exact .z | with_reducible exact .s .z | with_reducible exact .s (.s .z) | with_reducible exact .s (.s (.s .z)) | with_reducible exact .s (.s (.s (.s .z))) | with_reducible exact .s (.s (.s (.s (.s .z)))) | with_reducible exact .s (.s (.s (.s (.s (.s .z))))) | with_reducible exact HSA.out | with_reducible exact HSB.out | with_reducible exact HSC.out | with_reducible exact HSD.out); (first | exact G0.out | exact G1.out | exact G2.out | exact G3.out); go_big_quiet_op; go_big_quiet_on) | (go_big_quiet_op; go_big_quiet_on) | (go_big_quiet_op; go_big_quiet_on) | (go_big_quiet_op; refine ⟨_, fun _ _ => rfl, ?_⟩; go_big_quiet_on))))
            refine wpQuiet_nil ?_
            intro w' HM'
            clear HM; have HM := HM'; clear HM'
            go_wp2_with fail
            go_ret
            exact ⟨rfl, Own.fin HM⟩
theorem moves_any (a1 a2 : Option Addr) (n1 c1 n2 c2 : Nat) (sp : Nat → Nat → Nat) (tl : Nat → Nat) (r0 r1 r2 r3 r4 r5 r6 r7 r8 r9 r10 by_ : Nat) (b1 : r1 < 256) (bb : by_ < 256) (w : World) (h1 : TriRow w a1 n1 sp) (h2 : ByteRow w a2 n2 tl) :
    Calls Try.prog 5 #[.agg #[.slice a1 n1 c1, .slice a2 n2 c2], regsV r0 r1 r2 r3 r4 r5 r6 r7 r8 r9 r10, .int .u8 (by_ : Int)] w fun e w' => e = .returned (.bool true) ∧ Below w.heap.size w w' := by
  by_cases l1 : n1 ≤ 64
  · by_cases l2 : n2 ≤ 300
    · by_cases l3 : n1 ≤ 30
      · exact moves_in a1 a2 n1 c1 n2 c2 sp tl r0 r1 r2 r3 r4 r5 r6 r7 r8 r9 r10 by_ b1 bb w h1 h2 l3 l2
      · exact moves_o2 a1 a2 n1 c1 n2 c2 r0 r1 r2 r3 r4 r5 r6 r7 r8 r9 r10 by_ w l1 l2 (by omega)
    · exact moves_o1 a1 a2 n1 c1 n2 c2 r0 r1 r2 r3 r4 r5 r6 r7 r8 r9 r10 by_ w l1 (by omega)
  · exact moves_o0 a1 a2 n1 c1 n2 c2 r0 r1 r2 r3 r4 r5 r6 r7 r8 r9 r10 by_ w (by omega)

end Go.Proofs.Ytcefgcoibppdaaa
