/-
  The law PsgSplits returns true for any sound and any four numbers, and writes nothing that was there.
-/
import Derived.Test.YtnkfelflpkbobaaDoorPsgRun
import Derived.Test.YtnkfelflpkbobaaDoorPsgSame
import Derived.Test.YtnkfelflpkbobaaDoorPsgAlive
import Derived.Test.YtnkfelflpkbobaaDoorPsgRight
import Derived.Test.YtnkfelflpkbobaaDoorDrawn
import Derived.Deep.Cut
import Derived.Deep.CutRange
namespace Go.Proofs.YtnkfelflpkbobaaDoor
open Go.RowKit

theorem i64s_all (zs : List Int) : ∀ u ∈ i64s zs, u.oneCell' = true := by
  intro u hu
  simp only [i64s, List.mem_map] at hu
  obtain ⟨z, -, rfl⟩ := hu
  rfl
/-- the first two together, as the walk meets it; the third is as it was -/
theorem own_append2 {W0 w : World} {ops : Array Oper} {rest : List Oper} {o : Oper} {a : Act} {Q : Exit → Act → World → Prop} {L R1 R2 R3 : List (Nat × TypeId × List Value)} {v1 v2 v3 : Value} {zs1 zs2 zs3 : List Int} {s y : Operand}
    (HM : Hid (Own W0 w (L ++ ((R1 ++ R2) ++ R3)))) (H1 : Hid (RowIs 3 R1 v1 (i64s zs1))) (H2 : Hid (RowIs 3 R2 v2 (i64s zs2))) (H3 : Hid (RowIs 3 R3 v3 (i64s zs3)))
    (ho : o.op = .call { callee := .builtin .append, args := #[s, y], argTypes := #[43, 43] }) (hs : a.eval s = v1) (hy : a.eval y = v2) (hw : Region.wanted o (yielded ops a.tmps) = true) (hl : zs1.length + zs2.length ≤ 100000)
    (h : ∀ v' w', Hid (Reads w' v' (zs1 ++ zs2)) → Hid (Reads w' v3 zs3) → Hid (Below W0.heap.size W0 w') → wpList Tryd.prog ops Q rest (a.put o.dst v') w') : wpList Tryd.prog ops Q (o :: rest) a w := by
  obtain ⟨i0, hi, hz0, hz1, hz2⟩ := int_parts
  have hr1 := H1.out.owns (w := w) (B := W0.heap.size) (fun e he => HM.out.whole e (by simp [he]))
  refine wpList_wanted hw fun K hK => ?_
  rcases H2.out with ⟨-, hv, hz⟩ | ⟨g, cap, cur, hR, hv, k1, k2, k3, k4⟩
  · have hz' : zs2 = [] := by simpa [i64s] using hz
    subst hz'
    rw [hv] at hy
    have hrun := run_append_owned_none (P := Tryd.prog) (w := w) W0.heap.size 43 o.type 3 i0 1 Tryd.underlying43 hi v1 _ _ hr1
    have hk := hK _ _ (h v1 w (by rw [List.append_nil]; exact Reads.of_row H1.out (fun e he => (HM.out.whole e (by simp [he])).2)) (Reads.of_row H3.out (fun e he => (HM.out.whole e (by simp [he])).2)) HM.out.below)
    unfold Oper.wp
    simp [execOp, ho, resolve, invoke, builtin, hs, hy, hrun, Result.andThen]
    exact hk
  · rw [hv] at hy
    have hw2 := (HM.out.whole (g, 3, cur) (by simp [hR])).2
    refine wp_append_own w s y 43 ho W0.heap.size 3 i0 (.int .i64 0) 1 8 Tryd.underlying43 hi hz0 hz1 hz2 rfl (by decide) v1 _ _ hs hr1 ⟨g, 0, none⟩ (i64s zs2).length cap (i64s zs2) hy (by simp) ?_ (i64s_all zs2) (by simp; unfold maxLen; omega) (by simp; omega) HM.out.below.size ?_
    · intro j x hj
      have hjl : j < (i64s zs2).length := by
        rcases Nat.lt_or_ge j (i64s zs2).length with h | h
        · exact h
        · rw [List.getElem?_eq_none h] at hj; cases hj
      have ha : (⟨g, 0, none⟩ : Addr).add j = ⟨g, j, none⟩ := by unfold Addr.add; split <;> simp_all
      have hc := hw2.at_ j
      have e : (cur.take (i64s zs2).length)[j]? = (i64s zs2)[j]? := by rw [k4]
      rw [List.getElem?_take, if_pos hjl] at e
      rw [ha, hc]
      show cur[j]? = some x
      rw [e, hj]
    · intro v' w' ho' hg' _
      have hp := List.pairwise_append.1 (List.pairwise_append.1 HM.out.apart).2.1
      have hrow : ∀ k, v1.ownBlock = some k → ∃ c, (k, 3, c) ∈ R1 := by
        intro k hk
        rcases H1.out with ⟨-, hv1, -⟩ | ⟨g1, cap1, cur1, hR1, hv1, -⟩
        · rw [hv1] at hk; cases hk
        · rw [hv1] at hk; cases hk; exact ⟨cur1, by rw [hR1]; exact List.mem_singleton.2 rfl⟩
      refine hK _ _ (h v' w' (Reads.of_owns (zs := zs1 ++ zs2) (by have hx := ho'; rw [show i64s zs1 ++ i64s zs2 = i64s (zs1 ++ zs2) by simp [i64s]] at hx; exact hx)) (Reads.of_row H3.out ?_) ?_)
      · intro e he
        refine ((HM.out.whole e (by simp [he])).2).grown hg' ?_
        intro hk
        obtain ⟨c, hm⟩ := hrow e.1 hk.symm
        exact hp.2.2 (e.1, 3, c) (by simp [hm]) e he rfl
      · exact HM.out.below.trans ((Below.refl _ w).grown hg' HM.out.below.size (fun k hk => by
          obtain ⟨c, hm⟩ := hrow k hk
          exact (HM.out.whole (k, 3, c) (by simp [hm])).1))

set_option maxRecDepth 100000 in
set_option maxHeartbeats 3200000 in
theorem splits_in (S : Snd) (hS : S.Good) (n0 n1 e ph : Nat) (h0 : n0 ≤ 2000) (h1 : n1 ≤ 2000) (e1 : 1 ≤ e) (e2 : e ≤ 100) (hp : ph ≤ 100) (w : World) (hT : Tab w) :
    Calls Tryd.prog 5 #[.agg S.cells.toArray, .agg #[.int .i64 n0, .int .i64 n1, .int .i64 e, .int .i64 ph]] w fun r w' => r = .returned (.bool true) ∧ Below w.heap.size w w' := by
  have HT := Lib.hid hT
  have HR1 : Hid (∀ w, Calls Tryd.prog 11 #[.agg S.cells.toArray] w fun e w' => e = .returned (.bool true) ∧ Below w.heap.size w w') := by show _; rw [← hS.right]; exact pright_at S hS.fits
  have RA := Lib.hid (run_at S hS n0 (by omega) e e1 e2 ph (by omega) (by omega))
  have hm0 : 0 ≤ ((ph : Int) + n0) % e := Int.emod_nonneg _ (by omega)
  have hm1 : ((ph : Int) + n0) % e < e := Int.emod_lt_of_pos _ (by omega)
  have hB := run_at (S.go n0) (hS.go n0) n1 (by omega) e e1 e2 (((ph : Int) + n0) % e) hm0 (by omega)
  rw [← S.go_more] at hB
  have RB := Lib.hid hB
  have hC := run_at S hS (n0 + n1) (by omega) e e1 e2 ph (by omega) (by omega)
  rw [show ((n0 + n1 : Nat) : Int) = (n0 : Int) + n1 from rfl] at hC
  have RC := Lib.hid hC
  have HJ := Lib.hid (S.heard_more e ph n0 n1)
  have HL := Lib.hid (S.heard_len e ph (n0 + n1))
  have E4 : ∀ w, (Op.equalIn 10000 30 (.agg (S.go (n0 + n1)).cells.toArray) (.agg (S.go (n0 + n1)).cells.toArray)).run Tryd.prog w = .ok true w := (S.go (n0 + n1)).same
  have q0 : ((n0 : Int) < 0) = False := eq_false (by omega)
  have q1 : ((n1 : Int) < 0) = False := eq_false (by omega)
  have q2 : ((2000 : Int) < n0) = False := eq_false (by omega)
  have q3 : ((2000 : Int) < n1) = False := eq_false (by omega)
  have q4 : ((e : Int) < 1) = False := eq_false (by omega)
  have q5 : ((100 : Int) < e) = False := eq_false (by omega)
  have q6 : ((ph : Int) < 0) = False := eq_false (by omega)
  have q7 : ((100 : Int) < ph) = False := eq_false (by omega)
  have hadd : IntKind.i64.wrap ((ph : Int) + n0) = ph + n0 := IntWalk.i64_in _ (by omega)
  have hrem : ((ph : Int) + n0).tmod e = (ph + n0) % e := Int.tmod_eq_emod_of_nonneg (by omega)
  have hrw : IntKind.i64.wrap (((ph : Int) + n0) % e) = (ph + n0) % e := IntWalk.i64_in _ (by omega)
  have hne : ¬ (e : Int) = 0 := by omega
  have hneN : ¬ e = 0 := by omega
  have hne2 : ((e : Int) == 0) = false := by simpa using hne
  have hadd2 : IntKind.i64.wrap ((n0 : Int) + n1) = n0 + n1 := IntWalk.i64_in _ (by omega)
  clear hT hS hB hC hm0 hm1
  have HM := Lib.hid (Own.start w)
  have tg1 : Hid True := trivial
  have tg2 : Hid True := trivial
  have tg3 : Hid True := trivial
  go_enter Tryd.func5, Tryd.ntmps5
  go_wp2_with (first
    | ((with_reducible apply own_box HM); exact rfl; (conv => lhs; whnf); exact rfl; exact rfl; (first | (clear tg1; intro w' g1 HM') | (clear tg2; intro w' g2 HM') | (clear tg3; intro w' g3 HM') | (clear tg4; intro w' g4 HM') | intro w' g' HM'); clear HM; have HM := HM'; clear HM'; all_goals skip) | ((with_reducible apply own_alloc HM); exact rfl; (first | (with_reducible exact zeroS)); exact rfl; (first | (clear tg1; intro w' g1 HM') | (clear tg2; intro w' g2 HM') | (clear tg3; intro w' g3 HM') | (clear tg4; intro w' g4 HM') | intro w' g' HM'); clear HM; have HM := HM'; clear HM'; all_goals skip) | ((with_reducible apply own_cell HM); exact rfl; exact rfl; (first | (with_reducible exact oneInt)); (first | with_reducible exact .z | with_reducible exact .s .z | with_reducible exact .s (.s .z) | with_reducible exact .s (.s (.s .z)) | with_reducible exact .s (.s (.s (.s .z))) | with_reducible exact .s (.s (.s (.s (.s .z))))); (focus repeat' (first | with_reducible exact .z | with_reducible apply Drop.s)); exact rfl; all_goals skip) | ((with_reducible apply own_load HM); exact rfl; exact rfl; (first | (with_reducible exact aggI4)); (first | with_reducible exact .z | with_reducible exact .s .z | with_reducible exact .s (.s .z) | with_reducible exact .s (.s (.s .z)) | with_reducible exact .s (.s (.s (.s .z))) | with_reducible exact .s (.s (.s (.s (.s .z))))); (focus repeat' (first | with_reducible exact .z | with_reducible apply Drop.s)); (focus repeat' (first | with_reducible exact .z | with_reducible apply Take.s)); exact rfl; all_goals skip) | ((with_reducible apply own_store HM); exact rfl; exact rfl; (conv => lhs; whnf); exact rfl; (first | with_reducible exact .z | with_reducible exact .s .z | with_reducible exact .s (.s .z) | with_reducible exact .s (.s (.s .z)) | with_reducible exact .s (.s (.s (.s .z))) | with_reducible exact .s (.s (.s (.s (.s .z))))); (focus repeat' (first | with_reducible exact .z | with_reducible apply Over.p | with_reducible apply Over.s)); (first | with_reducible exact .z | with_reducible exact .s .z | with_reducible exact .s (.s .z) | with_reducible exact .s (.s (.s .z)) | with_reducible exact .s (.s (.s (.s .z))) | with_reducible exact .s (.s (.s (.s (.s .z))))); (first | (with_reducible exact (aggI4).size) | (with_reducible exact (oneInt).size)); exact rfl; exact rfl; exact rfl; exact rfl; intro w' HM'; clear HM; have HM := HM'; clear HM'; all_goals skip)
    | ((with_reducible apply own_row HM); exact rfl; exact rfl; exact aggS; (first | with_reducible exact .z | with_reducible exact .s .z | with_reducible exact .s (.s .z) | with_reducible exact .s (.s (.s .z)) | with_reducible exact .s (.s (.s (.s .z))) | with_reducible exact .s (.s (.s (.s (.s .z))))); exact rfl; exact Snd.cells_length _; all_goals skip) | ((with_reducible apply own_lay HM); exact rfl; exact rfl; exact rfl; (first | with_reducible exact .z | with_reducible exact .s .z | with_reducible exact .s (.s .z) | with_reducible exact .s (.s (.s .z)) | with_reducible exact .s (.s (.s (.s .z))) | with_reducible exact .s (.s (.s (.s (.s .z))))); (first | with_reducible exact .z | with_reducible exact .s .z | with_reducible exact .s (.s .z) | with_reducible exact .s (.s (.s .z)) | with_reducible exact .s (.s (.s (.s .z))) | with_reducible exact .s (.s (.s (.s (.s .z))))); exact aggS.size; (first | exact Snd.cells_length _ | exact rfl); (first | exact Snd.cells_length _ | exact rfl); (first | exact Snd.one _ | exact rfl); exact rfl; exact rfl; intro w' HM'; clear HM; have HM := HM'; clear HM'; all_goals skip)
    | (go_at_call 9; refine (psgAlive_any _ (Tab.own HT HM)).mono ?_; rintro e w' ⟨rfl, hb⟩; have HM' := Lib.hid (HM.out.call hb); clear HM hb; have HM := HM'; clear HM')
    | (go_at_call 11; refine (HR1.out _).mono ?_; rintro e w' ⟨rfl, hb⟩; have HM' := Lib.hid (HM.out.call hb); clear HM hb; have HM := HM'; clear HM')
    | (go_at_call 20; refine (RA.out _ (Tab.own HT HM)).mono ?_; rintro r w' ⟨R1, v1, rfl, hR1, hb, hW1⟩; have HM' : Hid (Own w w' ((g2, 42, [.int .i64 n0, .int .i64 n1, .int .i64 e, .int .i64 ph]) :: (g1, 30, S.cells) :: R1)) := HM.out.add hb hR1 hW1; clear HM hb hW1; have HM := HM'; clear HM'; have HV1 := Lib.hid hR1; clear hR1))
  go_cut [7, 8] from 67 to 83 (fun s7 s8 wx => ∃ (g4 : Nat) (R2 : List (Nat × TypeId × List Value)), s7 = .pointer (some ⟨g4, 0, none⟩) ∧ Hid (RowIs 3 R2 s8 (i64s ((S.go n0).heard e (((ph : Int) + n0) % e) n1))) ∧ Hid (Own w wx ((g4, 30, (S.go (n0 + n1)).cells) :: (g3, 30, (S.go n0).cells) :: (g2, 42, [.int .i64 n0, .int .i64 n1, .int .i64 e, .int .i64 ph]) :: (g1, 30, S.cells) :: (R1 ++ R2))))
  case' first =>
    refine wp_region_held (S := fun w' => Own w w' ((g3, 30, (S.go n0).cells) :: (g2, 42, [.int .i64 n0, .int .i64 n1, .int .i64 e, .int .i64 ph]) :: (g1, 30, S.cells) :: R1)) (by kernel_rfl) ?_
    have HM' := Lib.hid HM.out.drew
    change wpAnyH _ _ _ _ _ _ _ _ (World.drew _)
    clear HM
    have HM := HM'
    clear HM'
    have HQ := HM.out
    refine h_take (i := 0) (d := 68) (v := .agg (S.go n0).cells.toArray) rfl rfl (by kernel_rfl) (by kernel_rfl) (by kernel_rfl) (fun _ _ _ h => h) (y_row rfl rfl aggS .z (Snd.cells_length _) rfl) HQ ?_
    (try simp only [Act.put, List.setIfInBounds_toArray, List.set_cons_zero, List.set_cons_succ])
    refine h_take (i := 1) (d := 69) (v := .pointer (some ⟨g2, 1, none⟩)) rfl rfl (by kernel_rfl) (by kernel_rfl) (by kernel_rfl) (fun _ _ _ h => h) (y_pure rfl (fun w => by go_simp)) HQ ?_
    (try simp only [Act.put, List.setIfInBounds_toArray, List.set_cons_zero, List.set_cons_succ])
    refine h_take (i := 2) (d := 70) (v := .int .i64 n1) rfl rfl (by kernel_rfl) (by kernel_rfl) (by kernel_rfl) (fun _ _ _ h => h) (y_cell (g := g2) (off := 1) rfl rfl oneInt (.s .z) (.s .z) rfl) HQ ?_
    (try simp only [Act.put, List.setIfInBounds_toArray, List.set_cons_zero, List.set_cons_succ])
    refine h_take (i := 3) (d := 71) (v := .pointer (some ⟨g2, 2, none⟩)) rfl rfl (by kernel_rfl) (by kernel_rfl) (by kernel_rfl) (fun _ _ _ h => h) (y_pure rfl (fun w => by go_simp)) HQ ?_
    (try simp only [Act.put, List.setIfInBounds_toArray, List.set_cons_zero, List.set_cons_succ])
    refine h_take (i := 4) (d := 72) (v := .int .i64 e) rfl rfl (by kernel_rfl) (by kernel_rfl) (by kernel_rfl) (fun _ _ _ h => h) (y_cell (g := g2) (off := 2) rfl rfl oneInt (.s .z) (.s (.s .z)) rfl) HQ ?_
    (try simp only [Act.put, List.setIfInBounds_toArray, List.set_cons_zero, List.set_cons_succ])
    refine h_take (i := 5) (d := 73) (v := .pointer (some ⟨g2, 3, none⟩)) rfl rfl (by kernel_rfl) (by kernel_rfl) (by kernel_rfl) (fun _ _ _ h => h) (y_pure rfl (fun w => by go_simp)) HQ ?_
    (try simp only [Act.put, List.setIfInBounds_toArray, List.set_cons_zero, List.set_cons_succ])
    refine h_take (i := 6) (d := 74) (v := .int .i64 ph) rfl rfl (by kernel_rfl) (by kernel_rfl) (by kernel_rfl) (fun _ _ _ h => h) (y_cell (g := g2) (off := 3) rfl rfl oneInt (.s .z) (.s (.s (.s .z))) rfl) HQ ?_
    (try simp only [Act.put, List.setIfInBounds_toArray, List.set_cons_zero, List.set_cons_succ])
    refine h_take (i := 7) (d := 75) (v := .pointer (some ⟨g2, 0, none⟩)) rfl rfl (by kernel_rfl) (by kernel_rfl) (by kernel_rfl) (fun _ _ _ h => h) (y_pure rfl (fun w => by go_simp)) HQ ?_
    (try simp only [Act.put, List.setIfInBounds_toArray, List.set_cons_zero, List.set_cons_succ])
    refine h_take (i := 8) (d := 76) (v := .int .i64 n0) rfl rfl (by kernel_rfl) (by kernel_rfl) (by kernel_rfl) (fun _ _ _ h => h) (y_cell (g := g2) (off := 0) rfl rfl oneInt (.s .z) .z rfl) HQ ?_
    (try simp only [Act.put, List.setIfInBounds_toArray, List.set_cons_zero, List.set_cons_succ])
    refine h_take (i := 9) (d := 77) (v := .int .i64 (IntKind.i64.wrap ((ph : Int) + n0))) rfl rfl (by kernel_rfl) (by kernel_rfl) (by kernel_rfl) (fun _ _ _ h => h) (y_pure rfl (fun w => rfl)) HQ ?_
    rw [hadd]
    (try simp only [Act.put, List.setIfInBounds_toArray, List.set_cons_zero, List.set_cons_succ])
    refine h_take (i := 10) (d := 78) (v := .pointer (some ⟨g2, 2, none⟩)) rfl rfl (by kernel_rfl) (by kernel_rfl) (by kernel_rfl) (fun _ _ _ h => h) (y_pure rfl (fun w => by go_simp)) HQ ?_
    (try simp only [Act.put, List.setIfInBounds_toArray, List.set_cons_zero, List.set_cons_succ])
    refine h_take (i := 11) (d := 79) (v := .int .i64 e) rfl rfl (by kernel_rfl) (by kernel_rfl) (by kernel_rfl) (fun _ _ _ h => h) (y_cell (g := g2) (off := 2) rfl rfl oneInt (.s .z) (.s (.s .z)) rfl) HQ ?_
    (try simp only [Act.put, List.setIfInBounds_toArray, List.set_cons_zero, List.set_cons_succ])
    refine h_take (i := 12) (d := 80) (v := .int .i64 (((ph : Int) + n0) % e)) rfl rfl (by kernel_rfl) (by kernel_rfl) (by kernel_rfl) (fun _ _ _ h => h) (y_pure rfl (fun w => by go_simp)) HQ ?_
    (try simp only [Act.put, List.setIfInBounds_toArray, List.set_cons_zero, List.set_cons_succ])
    refine wpAnyH_all (rs := [13, 17]) (by kernel_rfl) (by simp) ?_
    intro i hi
    simp only [List.mem_cons, List.not_mem_nil, or_false] at hi
    rcases hi with rfl | rfl
    · refine wpOp_of rfl rfl ?_
      refine w_call (f := 20) (args := #[.agg (S.go n0).cells.toArray, .int .i64 n1, .int .i64 e, .int .i64 (((ph : Int) + n0) % e)]) (fun w => rfl) (by go_simp) ?_
      refine (RB.out _ (Tab.own HT HM)).mono ?_
      rintro r w2 ⟨R2, v2, rfl, hR2, hb, hW⟩
      have HB2 : Hid (Own w w2 ((g3, 30, (S.go n0).cells) :: (g2, 42, [.int .i64 n0, .int .i64 n1, .int .i64 e, .int .i64 ph]) :: (g1, 30, S.cells) :: (R1 ++ R2))) := HM.out.add hb hR2 hW
      have HQ2 : Own w w2 ((g3, 30, (S.go n0).cells) :: (g2, 42, [.int .i64 n0, .int .i64 n1, .int .i64 e, .int .i64 ph]) :: (g1, 30, S.cells) :: R1) := HM.out.call hb
      have HV2 := Lib.hid hR2
      clear hb hW hR2 HQ HM
      refine ⟨_, rfl, HQ2, ?_⟩
      change wpAnyH _ _ _ _ _ _ _ (Act.put _ (some 81) _) _
      (try simp only [Act.put, List.setIfInBounds_toArray, List.set_cons_zero, List.set_cons_succ])
      refine h_take (i := 14) (d := 67) (v := .tuple #[.agg (S.go (n0 + n1)).cells.toArray, v2]) rfl rfl (by kernel_rfl) (by kernel_rfl) (by kernel_rfl) (fun _ _ _ h => h) (y_pure rfl (fun w => rfl)) HQ2 ?_
      (try simp only [Act.put, List.setIfInBounds_toArray, List.set_cons_zero, List.set_cons_succ])
      refine h_take (i := 15) (d := 82) (v := .agg (S.go (n0 + n1)).cells.toArray) rfl rfl (by kernel_rfl) (by kernel_rfl) (by kernel_rfl) (fun _ _ _ h => h) (y_pure rfl (fun w => rfl)) HQ2 ?_
      (try simp only [Act.put, List.setIfInBounds_toArray, List.set_cons_zero, List.set_cons_succ])
      refine h_take (i := 16) (d := 83) (v := v2) rfl rfl (by kernel_rfl) (by kernel_rfl) (by kernel_rfl) (fun _ _ _ h => h) (y_pure rfl (fun w => rfl)) HQ2 ?_
      (try simp only [Act.put, List.setIfInBounds_toArray, List.set_cons_zero, List.set_cons_succ])
      refine wpAnyH_all (rs := [17]) (by kernel_rfl) (by simp) ?_
      intro i hi
      obtain rfl := List.mem_singleton.1 hi
      refine wpOp_of rfl rfl ?_
      refine w_alloc HB2 rfl zeroS ?_
      intro w3 g4 HM3
      have HQ3 : Own w w3 ((g3, 30, (S.go n0).cells) :: (g2, 42, [.int .i64 n0, .int .i64 n1, .int .i64 e, .int .i64 ph]) :: (g1, 30, S.cells) :: R1) := HM3.out.sub (.cons _ (.cons_cons _ (.cons_cons _ (.cons_cons _ (List.sublist_append_left _ _)))))
      refine ⟨HQ3, ?_⟩
      clear HB2 HQ2
      change wpAnyH _ _ _ _ _ _ _ (Act.put _ (some 7) _) _
      (try simp only [Act.put, List.setIfInBounds_toArray, List.set_cons_zero, List.set_cons_succ])
      refine wpAnyH_all (rs := [18]) (by kernel_rfl) (by simp) ?_
      intro i hi
      obtain rfl := List.mem_singleton.1 hi
      refine wpOp_of rfl rfl ?_
      refine w_lay HM3 rfl rfl rfl .z .z aggS.size (Snd.cells_length _) rfl (Snd.one _) rfl ?_
      intro w4 HM4
      have HQ4 : Own w w4 ((g3, 30, (S.go n0).cells) :: (g2, 42, [.int .i64 n0, .int .i64 n1, .int .i64 e, .int .i64 ph]) :: (g1, 30, S.cells) :: R1) := HM4.out.sub (.cons _ (.cons_cons _ (.cons_cons _ (.cons_cons _ (List.sublist_append_left _ _)))))
      refine ⟨HQ4, ?_⟩
      refine h_take (i := 19) (d := 8) (v := v2) rfl rfl (by kernel_rfl) (by kernel_rfl) (by kernel_rfl) (fun _ _ _ h => h) (y_pure rfl (fun w => rfl)) HQ4 ?_
      (try simp only [Act.put, List.setIfInBounds_toArray, List.set_cons_zero, List.set_cons_succ])
      refine wpAnyH_done (by kernel_rfl) ?_ _
      go_wp2_with fail
      go_meet
      exact ⟨g4, R2, rfl, HV2, HM4⟩
    · refine wpOp_of rfl rfl ?_
      refine w_alloc HM rfl zeroS ?_
      intro w3 g4 HM3
      have HQ3 : Own w w3 ((g3, 30, (S.go n0).cells) :: (g2, 42, [.int .i64 n0, .int .i64 n1, .int .i64 e, .int .i64 ph]) :: (g1, 30, S.cells) :: R1) := HM3.out.sub (.cons _ (List.Sublist.refl _))
      refine ⟨HQ3, ?_⟩
      clear HQ HM
      change wpAnyH _ _ _ _ _ _ _ (Act.put _ (some 7) _) _
      (try simp only [Act.put, List.setIfInBounds_toArray, List.set_cons_zero, List.set_cons_succ])
      refine wpAnyH_all (rs := [13]) (by kernel_rfl) (by simp) ?_
      intro i hi
      obtain rfl := List.mem_singleton.1 hi
      refine wpOp_of rfl rfl ?_
      refine w_call (f := 20) (args := #[.agg (S.go n0).cells.toArray, .int .i64 n1, .int .i64 e, .int .i64 (((ph : Int) + n0) % e)]) (fun w => rfl) (by go_simp) ?_
      refine (RB.out _ (Tab.own HT HM3)).mono ?_
      rintro r w2 ⟨R2, v2, rfl, hR2, hb, hW⟩
      have HB3 : Hid (Own w w2 ((g4, 30, [.int .i64 0, .int .i64 0, .bool false, .int .i64 0, .int .i64 0, .bool false, .int .i64 0, .int .i64 0, .bool false, .int .u8 0, .int .i64 0, .bool false, .int .u16 0, .int .u8 0, .int .u8 0, .int .u8 0, .int .u8 0, .int .u8 0]) :: (g3, 30, (S.go n0).cells) :: (g2, 42, [.int .i64 n0, .int .i64 n1, .int .i64 e, .int .i64 ph]) :: (g1, 30, S.cells) :: (R1 ++ R2))) := HM3.out.add hb hR2 hW
      have HQ2 : Own w w2 ((g3, 30, (S.go n0).cells) :: (g2, 42, [.int .i64 n0, .int .i64 n1, .int .i64 e, .int .i64 ph]) :: (g1, 30, S.cells) :: R1) := HQ3.call hb
      have HV2 := Lib.hid hR2
      clear hb hW hR2 HM3 HQ3
      refine ⟨_, rfl, HQ2, ?_⟩
      change wpAnyH _ _ _ _ _ _ _ (Act.put _ (some 81) _) _
      (try simp only [Act.put, List.setIfInBounds_toArray, List.set_cons_zero, List.set_cons_succ])
      refine h_take (i := 14) (d := 67) (v := .tuple #[.agg (S.go (n0 + n1)).cells.toArray, v2]) rfl rfl (by kernel_rfl) (by kernel_rfl) (by kernel_rfl) (fun _ _ _ h => h) (y_pure rfl (fun w => rfl)) HQ2 ?_
      (try simp only [Act.put, List.setIfInBounds_toArray, List.set_cons_zero, List.set_cons_succ])
      refine h_take (i := 15) (d := 82) (v := .agg (S.go (n0 + n1)).cells.toArray) rfl rfl (by kernel_rfl) (by kernel_rfl) (by kernel_rfl) (fun _ _ _ h => h) (y_pure rfl (fun w => rfl)) HQ2 ?_
      (try simp only [Act.put, List.setIfInBounds_toArray, List.set_cons_zero, List.set_cons_succ])
      refine h_take (i := 16) (d := 83) (v := v2) rfl rfl (by kernel_rfl) (by kernel_rfl) (by kernel_rfl) (fun _ _ _ h => h) (y_pure rfl (fun w => rfl)) HQ2 ?_
      (try simp only [Act.put, List.setIfInBounds_toArray, List.set_cons_zero, List.set_cons_succ])
      refine wpAnyH_all (rs := [18]) (by kernel_rfl) (by simp) ?_
      intro i hi
      obtain rfl := List.mem_singleton.1 hi
      refine wpOp_of rfl rfl ?_
      refine w_lay HB3 rfl rfl rfl .z .z aggS.size (Snd.cells_length _) rfl (Snd.one _) rfl ?_
      intro w4 HM4
      have HQ4 : Own w w4 ((g3, 30, (S.go n0).cells) :: (g2, 42, [.int .i64 n0, .int .i64 n1, .int .i64 e, .int .i64 ph]) :: (g1, 30, S.cells) :: R1) := HM4.out.sub (.cons _ (.cons_cons _ (.cons_cons _ (.cons_cons _ (List.sublist_append_left _ _)))))
      refine ⟨HQ4, ?_⟩
      refine h_take (i := 19) (d := 8) (v := v2) rfl rfl (by kernel_rfl) (by kernel_rfl) (by kernel_rfl) (fun _ _ _ h => h) (y_pure rfl (fun w => rfl)) HQ4 ?_
      (try simp only [Act.put, List.setIfInBounds_toArray, List.set_cons_zero, List.set_cons_succ])
      refine wpAnyH_done (by kernel_rfl) ?_ _
      go_wp2_with fail
      go_meet
      exact ⟨g4, R2, rfl, HV2, HM4⟩
  case' rest =>
    clear HM
    obtain ⟨g4, R2, rfl, HV2, HM⟩ := hcut
    go_wp2_with (first
      | ((with_reducible apply own_box HM); exact rfl; (conv => lhs; whnf); exact rfl; exact rfl; (first | (clear tg1; intro w' g1 HM') | (clear tg2; intro w' g2 HM') | (clear tg3; intro w' g3 HM') | (clear tg4; intro w' g4 HM') | intro w' g' HM'); clear HM; have HM := HM'; clear HM'; all_goals skip) | ((with_reducible apply own_alloc HM); exact rfl; (first | (with_reducible exact zeroS)); exact rfl; (first | (clear tg1; intro w' g1 HM') | (clear tg2; intro w' g2 HM') | (clear tg3; intro w' g3 HM') | (clear tg4; intro w' g4 HM') | intro w' g' HM'); clear HM; have HM := HM'; clear HM'; all_goals skip) | ((with_reducible apply own_cell HM); exact rfl; exact rfl; (first | (with_reducible exact oneInt)); (first | with_reducible exact .z | with_reducible exact .s .z | with_reducible exact .s (.s .z) | with_reducible exact .s (.s (.s .z)) | with_reducible exact .s (.s (.s (.s .z))) | with_reducible exact .s (.s (.s (.s (.s .z))))); (focus repeat' (first | with_reducible exact .z | with_reducible apply Drop.s)); exact rfl; all_goals skip) | ((with_reducible apply own_load HM); exact rfl; exact rfl; (first | (with_reducible exact aggI4)); (first | with_reducible exact .z | with_reducible exact .s .z | with_reducible exact .s (.s .z) | with_reducible exact .s (.s (.s .z)) | with_reducible exact .s (.s (.s (.s .z))) | with_reducible exact .s (.s (.s (.s (.s .z))))); (focus repeat' (first | with_reducible exact .z | with_reducible apply Drop.s)); (focus repeat' (first | with_reducible exact .z | with_reducible apply Take.s)); exact rfl; all_goals skip) | ((with_reducible apply own_store HM); exact rfl; exact rfl; (conv => lhs; whnf); exact rfl; (first | with_reducible exact .z | with_reducible exact .s .z | with_reducible exact .s (.s .z) | with_reducible exact .s (.s (.s .z)) | with_reducible exact .s (.s (.s (.s .z))) | with_reducible exact .s (.s (.s (.s (.s .z))))); (focus repeat' (first | with_reducible exact .z | with_reducible apply Over.p | with_reducible apply Over.s)); (first | with_reducible exact .z | with_reducible exact .s .z | with_reducible exact .s (.s .z) | with_reducible exact .s (.s (.s .z)) | with_reducible exact .s (.s (.s (.s .z))) | with_reducible exact .s (.s (.s (.s (.s .z))))); (first | (with_reducible exact (aggI4).size) | (with_reducible exact (oneInt).size)); exact rfl; exact rfl; exact rfl; exact rfl; intro w' HM'; clear HM; have HM := HM'; clear HM'; all_goals skip)
      | ((with_reducible apply own_row HM); exact rfl; exact rfl; exact aggS; (first | with_reducible exact .z | with_reducible exact .s .z | with_reducible exact .s (.s .z) | with_reducible exact .s (.s (.s .z)) | with_reducible exact .s (.s (.s (.s .z))) | with_reducible exact .s (.s (.s (.s (.s .z))))); exact rfl; exact Snd.cells_length _; all_goals skip) | ((with_reducible apply own_lay HM); exact rfl; exact rfl; exact rfl; (first | with_reducible exact .z | with_reducible exact .s .z | with_reducible exact .s (.s .z) | with_reducible exact .s (.s (.s .z)) | with_reducible exact .s (.s (.s (.s .z))) | with_reducible exact .s (.s (.s (.s (.s .z))))); (first | with_reducible exact .z | with_reducible exact .s .z | with_reducible exact .s (.s .z) | with_reducible exact .s (.s (.s .z)) | with_reducible exact .s (.s (.s (.s .z))) | with_reducible exact .s (.s (.s (.s (.s .z))))); exact aggS.size; (first | exact Snd.cells_length _ | exact rfl); (first | exact Snd.cells_length _ | exact rfl); (first | exact Snd.one _ | exact rfl); exact rfl; exact rfl; intro w' HM'; clear HM; have HM := HM'; clear HM'; all_goals skip)
      | (go_at_call 20; refine (RC.out _ (Tab.own HT HM)).mono ?_; rintro r w' ⟨R3, v3, rfl, hR3, hb, hW3⟩; have HM' : Hid (Own w w' ((g4, 30, (S.go (n0 + n1)).cells) :: (g3, 30, (S.go n0).cells) :: (g2, 42, [.int .i64 n0, .int .i64 n1, .int .i64 e, .int .i64 ph]) :: (g1, 30, S.cells) :: ((R1 ++ R2) ++ R3))) := HM.out.add hb hR3 hW3; clear HM hb hW3; have HM := HM'; clear HM'; have HV3 := Lib.hid hR3; clear hR3)
      | (refine own_append2 (L := [_, _, _, _, _]) HM HV1 HV2 HV3 rfl rfl rfl rfl (by have h := HL.out; rw [HJ.out, List.length_append] at h; omega) ?_; intro v' w' HX1 HX2 HB)
      | (go_at_call 21; refine (same_at (S.heard e ph (n0 + n1)) (by have h := HL.out; omega) _ _ _ (by rw [HJ.out]; exact HX1.out) HX2.out).mono ?_; rintro r w2 ⟨rfl, hb⟩))
    go_ret
    exact ⟨rfl, HB.out.trans (hb.mono HB.out.size)⟩

end Go.Proofs.YtnkfelflpkbobaaDoor
