/-
  Package psg's Run, by one contract: the sound behind so many steps, and what was heard.
-/
import Derived.Test.YtnkfelflpkbobaaDoorPsgLeap
import Derived.Test.YtnkfelflpkbobaaDoorPsgSample
import Derived.Test.YtnkfelflpkbobaaDoorRowOwn
namespace Go.Proofs.YtnkfelflpkbobaaDoor
open Go.RowKit

theorem int_info : (Tryd.prog.info? 3).map (fun i => (i.zero, i.size, i.bytes)) = some (some (.int .i64 0), 1, 8) := by kernel_rfl
theorem int_parts : ∃ i : TypeInfo, Tryd.prog.info? 3 = some i ∧ i.zero = some (.int .i64 0) ∧ i.size = 1 ∧ i.bytes = 8 := by
  have h := int_info
  cases hq : Tryd.prog.info? 3 with
  | none => rw [hq] at h; simp at h
  | some i => rw [hq] at h; simp at h; exact ⟨i, rfl, h.1, h.2.1, h.2.2⟩

theorem leap_to (S : Snd) (hS : S.Good) (d x : Nat) (hx : x ≤ 10000) (w : World) :
    Calls Tryd.prog 34 #[.agg (S.go d).cells.toArray, .int .i64 x] w fun e w' => e = .returned (.agg (S.go (d + x)).cells.toArray) ∧ Below w.heap.size w w' := by
  have h := leap_at (S.go d) (hS.go d) x (by omega) (by omega) w
  rw [(S.go d).leap_go (hS.go d) x, ← S.go_more] at h
  exact h

/-- one more heard: append, as the walk meets it -/
theorem own_append1 {W0 w : World} {ops : Array Oper} {rest : List Oper} {o : Oper} {a : Act} {Q : Exit → Act → World → Prop} {g3 g2 g1 : Nat} {t3 : TypeId} {c3 c2 c1 : List Value} {R : List (Nat × TypeId × List Value)} {v : Value} {xs : List Value} {u : Value} {s y : Operand}
    (HM : Hid (Own W0 w ((g3, t3, c3) :: (g2, 30, c2) :: (g1, 30, c1) :: R))) (HR : Hid (RowIs 3 R v xs)) (h3 : c3 = [u]) (hgd : o.guard = none)
    (ho : o.op = .call { callee := .builtin .append, args := #[s, y], argTypes := #[43, 43] }) (hs : a.eval s = v) (hy : a.eval y = .slice (some ⟨g3, 0, none⟩) 1 1) (hu : u.oneCell' = true) (hl : xs.length ≤ 100000)
    (h : ∀ v' w' R', Hid (RowIs 3 R' v' (xs ++ [u])) → Hid (Own W0 w' ((g2, 30, c2) :: (g1, 30, c1) :: R')) → wpList Tryd.prog ops Q rest (a.put o.dst v') w') : wpList Tryd.prog ops Q (o :: rest) a w := by
  obtain ⟨i0, hi, hz0, hz1, hz2⟩ := int_parts
  have hO : Own W0 w ([(g3, t3, c3)] ++ ([(g2, 30, c2), (g1, 30, c1)] ++ R)) := HM.out
  have hrow := HR.out.owns (w := w) (B := W0.heap.size) (fun e he => HM.out.whole e (by simp [he]))
  have hw3 := HM.out.at_ (.z)
  refine wpList_append_own _ hgd s y 43 ho W0.heap.size 3 i0 (.int .i64 0) 1 8 Tryd.underlying43 hi hz0 hz1 hz2 rfl (by decide) v xs.length xs hs hrow ⟨g3, 0, none⟩ 1 1 [u] hy rfl ?_ (by simpa using hu) (by unfold maxLen; omega) (by omega) HM.out.below.size ?_
  · intro j x hj
    have hj0 : j = 0 := by
      rcases Nat.lt_or_ge j 1 with h | h
      · omega
      · rw [List.getElem?_eq_none (by simpa using h)] at hj; cases hj
    subst hj0
    have := hw3.at_ 0
    rw [h3] at this
    rw [show (⟨g3, 0, none⟩ : Addr).add 0 = ⟨g3, 0, none⟩ by unfold Addr.add; simp, this, ← hj]
  · intro v' w' ho' hg' _
    obtain ⟨R', hR', hW⟩ := rowIs_of_owns ho' (by omega)
    exact h v' w' R' hR' (hO.append (t := 3) (by intro e he; simp at he; rcases he with rfl | rfl <;> (show (30 : Nat) ≠ 3; decide)) HR.out hg' hR' hW)

theorem gap_start (every phase : Int) (he : 1 ≤ every) : ∃ x : Nat, (x : Int) = every - phase % every ∧ 1 ≤ x ∧ (x : Int) ≤ every ∧ (∀ y : Nat, 1 ≤ y → y < x → ¬ ((0 : Int) + y + phase) % every = 0) ∧ ((0 : Int) + x + phase) % every = 0 := by
  have h1 := Int.emod_nonneg phase (show every ≠ 0 by omega)
  have h2 := Int.emod_lt_of_pos phase (show 0 < every by omega)
  have h3 := Int.emod_add_mul_ediv phase every
  refine ⟨(every - phase % every).toNat, by omega, by omega, by omega, fun y hy hyx => ?_, ?_⟩
  · have e : (0 : Int) + y + phase = (y + phase % every) + every * (phase / every) := by omega
    rw [e, Int.add_mul_emod_self_left, Int.emod_eq_of_lt (by omega) (by omega)]
    omega
  · have e : (0 : Int) + ((every - phase % every).toNat : Int) + phase = 0 + every * (phase / every + 1) := by
      rw [Int.mul_add, Int.mul_one]; omega
    rw [e, Int.add_mul_emod_self_left]
    rfl
theorem gap_next (every z : Int) (e : Nat) (he : every = e) (hz : z % every = 0) : (∀ y : Nat, 1 ≤ y → y < e → ¬ (z + y) % every = 0) ∧ (z + e) % every = 0 := by
  have h3 := Int.emod_add_mul_ediv z every
  refine ⟨fun y hy hyx => ?_, ?_⟩
  · have e2 : z + (y : Int) = y + every * (z / every) := by omega
    rw [e2, Int.add_mul_emod_self_left, Int.emod_eq_of_lt (by omega) (by omega)]
    omega
  · rw [← he, Int.add_emod_right]; exact hz

set_option maxRecDepth 100000 in
set_option maxHeartbeats 3200000 in
theorem run_at (S : Snd) (hS : S.Good) (n : Nat) (hn : n ≤ 5000) (e : Nat) (e1 : 1 ≤ e) (e2 : e ≤ 100) (ph : Int) (p0 : 0 ≤ ph) (p1 : ph ≤ 200) (w : World) (hT : Tab w) :
    Calls Tryd.prog 20 #[.agg S.cells.toArray, .int .i64 n, .int .i64 e, .int .i64 ph] w fun r w' =>
      ∃ R v, r = .returned (.tuple #[.agg (S.go n).cells.toArray, v]) ∧ RowIs 3 R v (i64s (S.heard e ph n)) ∧ Below w.heap.size w w' ∧ ∀ x ∈ R, w.heap.size ≤ x.1 ∧ Whole w' x.1 x.2.1 x.2.2 := by
  have HT := Lib.hid hT
  have HG := Lib.hid hS
  obtain ⟨x0, hx0, hx1, hx2, hx3, hx4⟩ := gap_start e ph (by omega)
  have hmod : ph.tmod e = ph % e := Int.tmod_eq_emod_of_nonneg p0
  have hne : ¬ (e : Int) = 0 := by omega
  have hne2 : ((e : Int) == 0) = false := by simpa using hne
  have hX := Lib.hid hx0
  have HGAP := Lib.hid (And.intro hx3 hx4)
  have hb1 := Int.emod_nonneg ph hne
  have hb2 := Int.emod_lt_of_pos ph (show (0 : Int) < e by omega)
  clear hT hS hx3 hx4 hx0
  have HM := Lib.hid (Own.start w)
  have tg1 : Hid True := trivial
  have tg2 : Hid True := trivial
  go_enter Tryd.func20, Tryd.ntmps20
  go_wp2_with (first
    | ((with_reducible apply own_box HM); exact rfl; (conv => lhs; whnf); exact rfl; exact rfl; (first | (clear tg1; intro w' g1 HM') | (clear tg2; intro w' g2 HM') | (clear tg3; intro w' g3 HM') | (clear tg4; intro w' g4 HM') | intro w' g' HM'); clear HM; have HM := HM'; clear HM'; all_goals skip) | ((with_reducible apply own_alloc HM); exact rfl; (first | (with_reducible exact zeroS)); exact rfl; (first | (clear tg1; intro w' g1 HM') | (clear tg2; intro w' g2 HM') | (clear tg3; intro w' g3 HM') | (clear tg4; intro w' g4 HM') | intro w' g' HM'); clear HM; have HM := HM'; clear HM'; all_goals skip) | ((with_reducible apply own_cell HM); exact rfl; exact rfl; (first | (with_reducible exact oneInt)); (first | with_reducible exact .z | with_reducible exact .s .z | with_reducible exact .s (.s .z) | with_reducible exact .s (.s (.s .z)) | with_reducible exact .s (.s (.s (.s .z))) | with_reducible exact .s (.s (.s (.s (.s .z))))); (focus repeat' (first | with_reducible exact .z | with_reducible apply Drop.s)); exact rfl; all_goals skip) | ((with_reducible apply own_store HM); exact rfl; exact rfl; (conv => lhs; whnf); exact rfl; (first | with_reducible exact .z | with_reducible exact .s .z | with_reducible exact .s (.s .z) | with_reducible exact .s (.s (.s .z)) | with_reducible exact .s (.s (.s (.s .z))) | with_reducible exact .s (.s (.s (.s (.s .z))))); (focus repeat' (first | with_reducible exact .z | with_reducible apply Over.p | with_reducible apply Over.s)); (first | with_reducible exact .z | with_reducible exact .s .z | with_reducible exact .s (.s .z) | with_reducible exact .s (.s (.s .z)) | with_reducible exact .s (.s (.s (.s .z))) | with_reducible exact .s (.s (.s (.s (.s .z))))); (first | (with_reducible exact (oneInt).size)); exact rfl; exact rfl; exact rfl; exact rfl; intro w' HM'; clear HM; have HM := HM'; clear HM'; all_goals skip)
    | ((with_reducible apply own_row HM); exact rfl; exact rfl; exact aggS; (first | with_reducible exact .z | with_reducible exact .s .z | with_reducible exact .s (.s .z) | with_reducible exact .s (.s (.s .z)) | with_reducible exact .s (.s (.s (.s .z))) | with_reducible exact .s (.s (.s (.s (.s .z))))); exact rfl; exact Snd.cells_length _; all_goals skip) | ((with_reducible apply own_lay HM); exact rfl; exact rfl; exact rfl; (first | with_reducible exact .z | with_reducible exact .s .z | with_reducible exact .s (.s .z) | with_reducible exact .s (.s (.s .z)) | with_reducible exact .s (.s (.s (.s .z))) | with_reducible exact .s (.s (.s (.s (.s .z))))); (first | with_reducible exact .z | with_reducible exact .s .z | with_reducible exact .s (.s .z) | with_reducible exact .s (.s (.s .z)) | with_reducible exact .s (.s (.s (.s .z))) | with_reducible exact .s (.s (.s (.s (.s .z))))); exact aggS.size; (first | exact Snd.cells_length _ | exact rfl); (first | exact Snd.cells_length _ | exact rfl); (first | exact Snd.one _ | exact rfl); exact rfl; exact rfl; intro w' HM'; clear HM; have HM := HM'; clear HM'; all_goals skip))
  have HR : Hid (RowIs 3 [] (.slice none 0 0) (i64s (S.heard e ph 0))) := RowIs.nil _
  go_loopw [1, 10, 11] (fun st sm nx wr => ∃ (d r x : Nat) (R : List (Nat × TypeId × List Value)) (v : Value), d + r = n ∧ st = .int .i64 r ∧ sm = v ∧ nx = .int .i64 x ∧ 1 ≤ x ∧ x ≤ 100 ∧
      Hid ((∀ y : Nat, 1 ≤ y → y < x → ¬ ((d : Int) + y + ph) % e = 0) ∧ ((d : Int) + x + ph) % e = 0) ∧ Hid (RowIs 3 R v (i64s (S.heard e ph d))) ∧ Hid (Own w wr ((g2, 30, zeroSL) :: (g1, 30, (S.go d).cells) :: R))) (fun st _ _ _ => (intOf st).toNat)
  case atStart => exact ⟨0, n, x0, [], _, by omega, rfl, rfl, by rw [hX.out], by omega, by omega, HGAP, HR, HM⟩
  case round =>
    clear HM HR
    obtain ⟨d, r, x, R, v, hd, rfl, rfl, rfl, hx1', hx2', HD, HR, HM⟩ := hrel
    have HL := Lib.hid (S.heard_len e ph d)
    by_cases hlt : x ≤ r
    · obtain ⟨X, hXX⟩ : ∃ X, X = (S.go (d + x)).sample := ⟨_, rfl⟩
      have HXX := Lib.hid hXX
      have HS : Hid (∀ w, Tab w → Calls Tryd.prog 12 #[.agg (S.go (d + x)).cells.toArray] w fun e w' => e = .returned (.int .i64 X) ∧ Below w.heap.size w w') := by rw [hXX]; exact sample_at (S.go (d + x)) (HG.out.go _).fits
      clear hXX
      have hlt' : (x : Int) ≤ r := by omega
      go_wp2_with (first
        | ((with_reducible apply own_box HM); exact rfl; (conv => lhs; whnf); exact rfl; exact rfl; (first | (clear tg1; intro w' g1 HM') | (clear tg2; intro w' g2 HM') | (clear tg3; intro w' g3 HM') | (clear tg4; intro w' g4 HM') | intro w' g' HM'); clear HM; have HM := HM'; clear HM'; all_goals skip) | ((with_reducible apply own_alloc HM); exact rfl; (first | (with_reducible exact zeroS)); exact rfl; (first | (clear tg1; intro w' g1 HM') | (clear tg2; intro w' g2 HM') | (clear tg3; intro w' g3 HM') | (clear tg4; intro w' g4 HM') | intro w' g' HM'); clear HM; have HM := HM'; clear HM'; all_goals skip) | ((with_reducible apply own_cell HM); exact rfl; exact rfl; (first | (with_reducible exact oneInt)); (first | with_reducible exact .z | with_reducible exact .s .z | with_reducible exact .s (.s .z) | with_reducible exact .s (.s (.s .z)) | with_reducible exact .s (.s (.s (.s .z))) | with_reducible exact .s (.s (.s (.s (.s .z))))); (focus repeat' (first | with_reducible exact .z | with_reducible apply Drop.s)); exact rfl; all_goals skip) | ((with_reducible apply own_store HM); exact rfl; exact rfl; (conv => lhs; whnf); exact rfl; (first | with_reducible exact .z | with_reducible exact .s .z | with_reducible exact .s (.s .z) | with_reducible exact .s (.s (.s .z)) | with_reducible exact .s (.s (.s (.s .z))) | with_reducible exact .s (.s (.s (.s (.s .z))))); (focus repeat' (first | with_reducible exact .z | with_reducible apply Over.p | with_reducible apply Over.s)); (first | with_reducible exact .z | with_reducible exact .s .z | with_reducible exact .s (.s .z) | with_reducible exact .s (.s (.s .z)) | with_reducible exact .s (.s (.s (.s .z))) | with_reducible exact .s (.s (.s (.s (.s .z))))); (first | (with_reducible exact (oneInt).size)); exact rfl; exact rfl; exact rfl; exact rfl; intro w' HM'; clear HM; have HM := HM'; clear HM'; all_goals skip)
        | ((with_reducible apply own_row HM); exact rfl; exact rfl; exact aggS; (first | with_reducible exact .z | with_reducible exact .s .z | with_reducible exact .s (.s .z) | with_reducible exact .s (.s (.s .z)) | with_reducible exact .s (.s (.s (.s .z))) | with_reducible exact .s (.s (.s (.s (.s .z))))); exact rfl; exact Snd.cells_length _; all_goals skip) | ((with_reducible apply own_lay HM); exact rfl; exact rfl; exact rfl; (first | with_reducible exact .z | with_reducible exact .s .z | with_reducible exact .s (.s .z) | with_reducible exact .s (.s (.s .z)) | with_reducible exact .s (.s (.s (.s .z))) | with_reducible exact .s (.s (.s (.s (.s .z))))); (first | with_reducible exact .z | with_reducible exact .s .z | with_reducible exact .s (.s .z) | with_reducible exact .s (.s (.s .z)) | with_reducible exact .s (.s (.s (.s .z))) | with_reducible exact .s (.s (.s (.s (.s .z))))); exact aggS.size; (first | exact Snd.cells_length _ | exact rfl); (first | exact Snd.cells_length _ | exact rfl); (first | exact Snd.one _ | exact rfl); exact rfl; exact rfl; intro w' HM'; clear HM; have HM := HM'; clear HM'; all_goals skip)
        | (go_at_call 34; refine (leap_to S HG.out d x (by omega) _).mono ?_; rintro e w' ⟨rfl, hb⟩; have HM' := Lib.hid (HM.out.call hb); clear HM hb; have HM := HM'; clear HM')
        | (go_at_call 12; refine (HS.out _ (Tab.own HT HM)).mono ?_; rintro e w' ⟨rfl, hb⟩; have HM' := Lib.hid (HM.out.call hb); clear HM hb; have HM := HM'; clear HM')
        | (refine own_append1 (u := .int .i64 X) (Lib.hid (HM.out.new 3 [.int .i64 X])) HR rfl rfl rfl rfl rfl rfl (by have h := HL.out; rw [i64s_length]; omega) ?_; intro v' w' R' HR' HM'; clear HM HR; have HM := HM'; have HR := HR'; clear HM' HR'))
      go_roundw
      case rel =>
        have hg := gap_next e ((d : Int) + x + ph) e rfl HD.out.2
        refine ⟨d + x, r - x, e, _, _, by omega, ?_, rfl, rfl, e1, e2, ?_, ?_, HM⟩
        · have hz : ((r - x : Nat) : Int) = (r : Int) - x := by omega
          rw [hz]
        · refine ⟨fun y hy1 hy2 => ?_, ?_⟩
          · have := hg.1 y hy1 hy2
            rw [show ((d + x : Nat) : Int) + y + ph = (d : Int) + x + ph + y by omega]; exact this
          · rw [show ((d + x : Nat) : Int) + e + ph = (d : Int) + x + ph + e by omega]; exact hg.2
        · show RowIs _ _ _ _
          rw [S.heard_one e ph d x hx1' HD.out.1 HD.out.2, ← HXX.out]
          have h := HR.out
          simpa [i64s] using h
      case measure => simp [intOf]; omega
    · have hlt' : ¬ (x : Int) ≤ r := by omega
      have HH : Hid (S.heard e ph d = S.heard e ph n) := by
        show _ = _
        rw [← hd]
        exact (S.heard_none e ph d r (fun y hy1 hy2 => HD.out.1 y hy1 (by omega))).symm
      go_wp2_with (first
        | ((with_reducible apply own_box HM); exact rfl; (conv => lhs; whnf); exact rfl; exact rfl; (first | (clear tg1; intro w' g1 HM') | (clear tg2; intro w' g2 HM') | (clear tg3; intro w' g3 HM') | (clear tg4; intro w' g4 HM') | intro w' g' HM'); clear HM; have HM := HM'; clear HM'; all_goals skip) | ((with_reducible apply own_alloc HM); exact rfl; (first | (with_reducible exact zeroS)); exact rfl; (first | (clear tg1; intro w' g1 HM') | (clear tg2; intro w' g2 HM') | (clear tg3; intro w' g3 HM') | (clear tg4; intro w' g4 HM') | intro w' g' HM'); clear HM; have HM := HM'; clear HM'; all_goals skip) | ((with_reducible apply own_cell HM); exact rfl; exact rfl; (first | (with_reducible exact oneInt)); (first | with_reducible exact .z | with_reducible exact .s .z | with_reducible exact .s (.s .z) | with_reducible exact .s (.s (.s .z)) | with_reducible exact .s (.s (.s (.s .z))) | with_reducible exact .s (.s (.s (.s (.s .z))))); (focus repeat' (first | with_reducible exact .z | with_reducible apply Drop.s)); exact rfl; all_goals skip) | ((with_reducible apply own_store HM); exact rfl; exact rfl; (conv => lhs; whnf); exact rfl; (first | with_reducible exact .z | with_reducible exact .s .z | with_reducible exact .s (.s .z) | with_reducible exact .s (.s (.s .z)) | with_reducible exact .s (.s (.s (.s .z))) | with_reducible exact .s (.s (.s (.s (.s .z))))); (focus repeat' (first | with_reducible exact .z | with_reducible apply Over.p | with_reducible apply Over.s)); (first | with_reducible exact .z | with_reducible exact .s .z | with_reducible exact .s (.s .z) | with_reducible exact .s (.s (.s .z)) | with_reducible exact .s (.s (.s (.s .z))) | with_reducible exact .s (.s (.s (.s (.s .z))))); (first | (with_reducible exact (oneInt).size)); exact rfl; exact rfl; exact rfl; exact rfl; intro w' HM'; clear HM; have HM := HM'; clear HM'; all_goals skip)
        | ((with_reducible apply own_row HM); exact rfl; exact rfl; exact aggS; (first | with_reducible exact .z | with_reducible exact .s .z | with_reducible exact .s (.s .z) | with_reducible exact .s (.s (.s .z)) | with_reducible exact .s (.s (.s (.s .z))) | with_reducible exact .s (.s (.s (.s (.s .z))))); exact rfl; exact Snd.cells_length _; all_goals skip) | ((with_reducible apply own_lay HM); exact rfl; exact rfl; exact rfl; (first | with_reducible exact .z | with_reducible exact .s .z | with_reducible exact .s (.s .z) | with_reducible exact .s (.s (.s .z)) | with_reducible exact .s (.s (.s (.s .z))) | with_reducible exact .s (.s (.s (.s (.s .z))))); (first | with_reducible exact .z | with_reducible exact .s .z | with_reducible exact .s (.s .z) | with_reducible exact .s (.s (.s .z)) | with_reducible exact .s (.s (.s (.s .z))) | with_reducible exact .s (.s (.s (.s (.s .z))))); exact aggS.size; (first | exact Snd.cells_length _ | exact rfl); (first | exact Snd.cells_length _ | exact rfl); (first | exact Snd.one _ | exact rfl); exact rfl; exact rfl; intro w' HM'; clear HM; have HM := HM'; clear HM'; all_goals skip)
        | (go_at_call 34; refine (leap_to S HG.out d r (by omega) _).mono ?_; rintro e w' ⟨rfl, hb⟩; have HM' := Lib.hid (HM.out.call hb); clear HM hb; have HM := HM'; clear HM'))
      refine bodyPost_ret (v := .tuple #[.agg (S.go n).cells.toArray, _]) (own_results2 HM Tryd.results20 _ rfl rfl (by first | exact .z | exact .s .z) aggS) rfl ⟨R, _, rfl, ?_, Own.fin HM, fun z hz => HM.out.whole z (by simp [hz])⟩
      rw [← HH.out]; exact HR.out

end Go.Proofs.YtnkfelflpkbobaaDoor
