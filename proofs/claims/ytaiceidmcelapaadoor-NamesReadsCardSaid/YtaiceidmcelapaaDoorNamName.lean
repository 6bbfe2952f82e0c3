/-
  Name of package names.
-/
import Derived.Test.YtaiceidmcelapaaDoorNamSpell
set_option linter.unusedSimpArgs false
set_option linter.unusedVariables false
namespace Go.Proofs.YtaiceidmcelapaaDoor
open Go.RowKit

theorem midx0 (w : World) : (Instr.index 35 (.agg #[.string ⟨#[43, 100]⟩, .string ⟨#[110, 110]⟩, .string ⟨#[110]⟩, .string ⟨#[101]⟩]) (.int .i64 0)).run Tryd.prog w = .ok (.string ⟨#[43, 100]⟩) w := by kernel_rfl
theorem midx1 (w : World) : (Instr.index 35 (.agg #[.string ⟨#[43, 100]⟩, .string ⟨#[110, 110]⟩, .string ⟨#[110]⟩, .string ⟨#[101]⟩]) (.int .i64 1)).run Tryd.prog w = .ok (.string ⟨#[110, 110]⟩) w := by kernel_rfl
theorem midx2 (w : World) : (Instr.index 35 (.agg #[.string ⟨#[43, 100]⟩, .string ⟨#[110, 110]⟩, .string ⟨#[110]⟩, .string ⟨#[101]⟩]) (.int .i64 2)).run Tryd.prog w = .ok (.string ⟨#[110]⟩) w := by kernel_rfl
theorem midx3 (w : World) : (Instr.index 35 (.agg #[.string ⟨#[43, 100]⟩, .string ⟨#[110, 110]⟩, .string ⟨#[110]⟩, .string ⟨#[101]⟩]) (.int .i64 3)).run Tryd.prog w = .ok (.string ⟨#[101]⟩) w := by kernel_rfl
set_option maxRecDepth 100000 in
set_option maxHeartbeats 6400000 in
theorem name_at (v : Value) (bs : List Nat) (hl : bs.length < 10000) (hb8 : ∀ i, bs.getD i 0 < 256) (w : World) (hR0 : Rd w v (by8 bs)) (hTab : Tabs w) : Calls Tryd.prog 8 #[v] w fun e w' => e = .returned (.tuple #[.string ⟨(cName bs).1.toArray⟩, .int .i64 ((cName bs).2 : Int)]) ∧ Below w.heap.size w w' := by
  have hT : Hid (Tabs w) := hTab
  have hR : Hid (Rd w v (by8 bs)) := hR0
  have hl : bs.length < 100000 := by omega
  have HB := Lib.hid hb8
  have lim := find_lim (bs.getD 0 0) (bs.getD 1 0)
  have HF := Lib.hid (find_at v bs hl)
  obtain ⟨F, hF⟩ : ∃ F, F = cFold bs (cStart0 bs) := ⟨_, rfl⟩
  have F0 : F 0 = cStart0 bs := by rw [hF, cFold]
  have HS : Hid (∀ k, F (k + 1) = cStep bs (mark k) (F k)) := by intro k; rw [hF, cFold]
  have HN : Hid (cName bs = ((F 4).1, max (F 4).2 ((cFind (bs.getD 0 0) (bs.getD 1 0)).2.1 + 1))) := by show _ = _; rw [hF]; rfl
  have hl4 : ∀ k ≤ 4, (F k).1.length ≤ 24 + 5 * k ∧ (F k).2 ≤ 2 + 2 * k := by
    intro k hk
    have h1 := len_fold bs (cStart0 bs) k
    have h2 : (cStart0 bs).1.length ≤ 24 := len_pat _ _ (hb8 _)
    have h3 : (cStart0 bs).2 ≤ 2 := lim.2.2
    rw [hF]
    omega
  have HL := Lib.hid hl4
  rw [HN.out]
  unfold cStart0 at F0
  obtain ⟨p, hp⟩ : ∃ p, (cFind (bs.getD 0 0) (bs.getD 1 0)).1 = p := ⟨_, rfl⟩
  obtain ⟨q, hq⟩ : ∃ q, (cFind (bs.getD 0 0) (bs.getD 1 0)).2.1 = q := ⟨_, rfl⟩
  obtain ⟨r, hr⟩ : ∃ r, (cFind (bs.getD 0 0) (bs.getD 1 0)).2.2 = r := ⟨_, rfl⟩
  rw [hp, hq, hr] at HF
  rw [hp, hq, hr] at F0 lim
  rw [hq]
  obtain ⟨b, hb⟩ : ∃ b, bs.getD q 0 = b := ⟨_, rfl⟩
  rw [hb] at F0
  have b8 : b < 256 := by rw [← hb]; exact hb8 q
  have HA : Hid (∀ w, Rd w v (by8 bs) → Calls Tryd.prog 14 #[v, .int .i64 (q : Int)] w fun e w' => e = .returned (.int .u8 (b : Int)) ∧ Below w.heap.size w w') := by
    intro w h
    have := at_at v bs q (by omega) hl w h
    rw [hb] at this
    exact this
  obtain ⟨s0, hs0⟩ : ∃ s0, cPat (p : Int) b = s0 := ⟨_, rfl⟩
  have HPT : Hid (∀ w, Tabs w → Calls Tryd.prog 10 #[.int .i64 (p : Int), .int .u8 (b : Int)] w fun e w' => e = .returned (.string ⟨s0.toArray⟩) ∧ Below w.heap.size w w') := by
    intro w h
    rw [← hs0]; exact pat_at (p : Int) b b8 w h
  rw [hs0] at F0
  have HF0 := Lib.hid F0
  obtain ⟨l1, l2, l3⟩ := lim
  clear hTab hR0 hb8 HN hF F0 hl4 hp hq hr hb hs0
  have HM := Lib.hid (Own.start w)
  have tg1 : Hid True := trivial
  go_enter Tryd.func8, Tryd.ntmps8
  go_wp2_with (first
    | ((with_reducible apply own_box HM); exact rfl; (conv => lhs; whnf); exact rfl; exact rfl; (first | (clear tg1; intro w' g1 HM') | (clear tg2; intro w' g2 HM') | (clear tg3; intro w' g3 HM') | (clear tg4; intro w' g4 HM') | intro w' g' HM'); clear HM; have HM := HM'; clear HM'; all_goals skip) | ((with_reducible apply own_alloc HM); exact rfl; (first | (with_reducible exact zeroSpot)); exact rfl; (first | (clear tg1; intro w' g1 HM') | (clear tg2; intro w' g2 HM') | (clear tg3; intro w' g3 HM') | (clear tg4; intro w' g4 HM') | intro w' g' HM'); clear HM; have HM := HM'; clear HM'; all_goals skip) | ((with_reducible apply own_cell HM); exact rfl; exact rfl; (first | (with_reducible exact oneInt)); (first | with_reducible exact .z | with_reducible exact .s .z | with_reducible exact .s (.s .z) | with_reducible exact .s (.s (.s .z)) | with_reducible exact .s (.s (.s (.s .z))) | with_reducible exact .s (.s (.s (.s (.s .z))))); (focus repeat' (first | with_reducible exact .z | with_reducible apply Drop.s)); exact rfl; all_goals skip) | ((with_reducible apply own_load HM); exact rfl; exact rfl; (first | (with_reducible exact aggSpot)); (first | with_reducible exact .z | with_reducible exact .s .z | with_reducible exact .s (.s .z) | with_reducible exact .s (.s (.s .z)) | with_reducible exact .s (.s (.s (.s .z))) | with_reducible exact .s (.s (.s (.s (.s .z))))); (focus repeat' (first | with_reducible exact .z | with_reducible apply Drop.s)); (focus repeat' (first | with_reducible exact .z | with_reducible apply Take.s)); exact rfl; all_goals skip) | ((with_reducible apply own_store HM); exact rfl; exact rfl; (conv => lhs; whnf); exact rfl; (first | with_reducible exact .z | with_reducible exact .s .z | with_reducible exact .s (.s .z) | with_reducible exact .s (.s (.s .z)) | with_reducible exact .s (.s (.s (.s .z))) | with_reducible exact .s (.s (.s (.s (.s .z))))); (focus repeat' (first | with_reducible exact .z | with_reducible apply Over.p | with_reducible apply Over.s)); (first | with_reducible exact .z | with_reducible exact .s .z | with_reducible exact .s (.s .z) | with_reducible exact .s (.s (.s .z)) | with_reducible exact .s (.s (.s (.s .z))) | with_reducible exact .s (.s (.s (.s (.s .z))))); (first | (with_reducible exact (aggSpot).size) | (with_reducible exact (oneInt).size)); exact rfl; exact rfl; exact rfl; exact rfl; intro w' HM'; clear HM; have HM := HM'; clear HM'; all_goals skip)
    | (go_at_call 13; (with_reducible refine (HF.out _ (Rd.own hR HM) (Tabs.own hT HM)).mono ?_); rintro e w' ⟨rfl, hb⟩; have HM' := Lib.hid (HM.out.call hb); clear HM hb; have HM := HM'; clear HM'))
  (refine own_region HM (by kernel_rfl) (by kernel_rfl) ?_; (try simp only [Act.put, List.setIfInBounds_toArray, List.set_cons_zero, List.set_cons_succ]); repeat ((fail_if_success (with_reducible refine wpQuiet_nil ?_)); first | go_big_quiet_skip | (go_big_quiet_want; first | ((with_reducible apply quiet_cell); exact rfl; (first | (with_reducible exact oneInt)); (first | with_reducible exact .z | with_reducible exact .s .z | with_reducible exact .s (.s .z) | with_reducible exact .s (.s (.s .z)) | with_reducible exact .s (.s (.s (.s .z))) | with_reducible exact .s (.s (.s (.s (.s .z))))); (focus repeat' (first | with_reducible exact .z | with_reducible apply Drop.s)); go_big_quiet_op; go_big_quiet_on) | ((with_reducible apply quiet_call); exact fun w => rfl; (focus (go_simp; all_goals with_reducible rfl)); (intro wq HQ; first | with_reducible exact HA.out _ (Rd.own hR HQ) | with_reducible exact HPT.out _ (Tabs.own hT HQ)); go_big_quiet_op; go_big_quiet_on) | (go_big_quiet_op; go_big_quiet_on) | (go_big_quiet_op; refine ⟨_, fun _ _ => rfl, ?_⟩; go_big_quiet_on))))
  refine wpQuiet_nil ?_
  intro w' HM'
  clear HM; have HM := HM'; clear HM'
  go_wp2_with fail
  go_loopw [5, 6, 26] (fun nm nx i wr => ∃ k : Nat, k ≤ 4 ∧ i = .int .i64 k ∧ nm = .string ⟨(F k).1.toArray⟩ ∧ nx = .int .i64 ((F k).2 : Int) ∧ Hid (Own w wr [(g1, 32, [.int .i64 (p : Int), .int .i64 (q : Int), .int .i64 (r : Int)])])) (fun _ _ i _ => 4 - (intOf i).toNat)
  case atStart => exact ⟨0, by decide, rfl, by rw [HF0.out], by rw [HF0.out], HM⟩
  case round =>
    clear HM
    obtain ⟨k, hk, rfl, rfl, rfl, HM⟩ := hrel
    obtain rfl | rfl | rfl | rfl | rfl : k = 0 ∨ k = 1 ∨ k = 2 ∨ k = 3 ∨ k = 4 := by omega
    · -- mark 0
      obtain ⟨s, hs⟩ : ∃ s, (F 0).1 = s := ⟨_, rfl⟩
      obtain ⟨nx, hnx⟩ : ∃ nx, (F 0).2 = nx := ⟨_, rfl⟩
      have hlen := HL.out 0 (by decide)
      rw [hs, hnx] at hlen
      have ls : s.length ≤ 50 := by omega
      have ln : nx ≤ 12 := by omega
      have hstep := HS.out 0
      rw [show mark 0 = [43, 100] from rfl, cStep, hs, hnx] at hstep
      obtain ⟨f, hf⟩ : ∃ f, (Lib.cut s [43, 100]).1 = f := ⟨_, rfl⟩
      obtain ⟨d, hd⟩ : ∃ d, (Lib.cut s [43, 100]).2.1 = d := ⟨_, rfl⟩
      obtain ⟨c, hc⟩ : ∃ c, (Lib.cut s [43, 100]).2.2 = c := ⟨_, rfl⟩
      have lf := len_cut s [43, 100]
      rw [hf, hd] at lf
      have HC : Hid (∀ w, Tabs w → Calls Tryd.prog 15 #[.string ⟨s.toArray⟩, .string ⟨#[43, 100]⟩] w fun e w' => e = .returned (.tuple #[.string ⟨f.toArray⟩, .string ⟨d.toArray⟩, .bool c]) ∧ Below w.heap.size w w') := by
        intro w hT
        have := cut_at s [43, 100] (by omega) w hT
        rw [hf, hd, hc] at this
        exact this
      rw [hf, hd, hc] at hstep
      obtain ⟨x, hx⟩ : ∃ x, bs.getD nx 0 = x := ⟨_, rfl⟩
      obtain ⟨y, hy⟩ : ∃ y, bs.getD (nx + 1) 0 = y := ⟨_, rfl⟩
      have x8 : x < 256 := by rw [← hx]; exact HB.out nx
      have y8 : y < 256 := by rw [← hy]; exact HB.out (nx + 1)
      have HX : Hid (∀ w, Rd w v (by8 bs) → Calls Tryd.prog 14 #[v, .int .i64 (nx : Int)] w fun e w' => e = .returned (.int .u8 (x : Int)) ∧ Below w.heap.size w w') := by
        intro w h
        have := at_at v bs nx (by omega) hl w h
        rw [hx] at this
        exact this
      have HY : Hid (∀ w, Rd w v (by8 bs) → Calls Tryd.prog 14 #[v, .int .i64 ((nx : Int) + 1)] w fun e w' => e = .returned (.int .u8 (y : Int)) ∧ Below w.heap.size w w') := by
        intro w h
        have := at_at v bs (nx + 1) (by omega) hl w h
        rw [hy] at this
        exact this
      obtain ⟨tx, htx⟩ : ∃ tx, cText [43, 100] x y = tx := ⟨_, rfl⟩
      have lt := len_text [43, 100] x y
      rw [htx] at lt
      rw [hx, hy, htx, show cSize [43, 100] = 1 from rfl] at hstep
      have HP : Hid (∀ w, Tabs w → Calls Tryd.prog 16 #[.string ⟨#[43, 100]⟩, .int .u8 (x : Int), .int .u8 (y : Int)] w fun e w' => e = .returned (.tuple #[.string ⟨tx.toArray⟩, .int .i64 1]) ∧ Below w.heap.size w w') := by
        intro w hT
        rw [← htx]
        by_cases h : x < 128
        · exact spell_du x y x8 y8 h w hT
        · exact spell_dd x y x8 y8 (by omega) w hT
      have hstep := Lib.hid hstep
      clear hlen hx hy htx hf hd hc
      rw [hs, hnx]
      cases c
      · go_wp2_with (first
          | ((with_reducible apply own_index); exact rfl; exact rfl; exact rfl; exact midx0; exact rfl; all_goals skip)
          | (go_at_call 15; (with_reducible refine (HC.out _ (Tabs.own hT HM)).mono ?_); rintro e w' ⟨rfl, hb⟩; have HM' := Lib.hid (HM.out.call hb); clear HM hb; have HM := HM'; clear HM'))
        go_roundw
        case rel =>
          refine ⟨1, by decide, rfl, ?_, ?_, HM⟩
          · rw [hstep.out, if_neg (by decide), hs]
          · rw [hstep.out, if_neg (by decide), hnx]
        case measure => simp [intOf]
      · go_wp2_with (first
          | ((with_reducible apply own_index); exact rfl; exact rfl; exact rfl; exact midx0; exact rfl; all_goals skip)
          | (go_at_call 15; (with_reducible refine (HC.out _ (Tabs.own hT HM)).mono ?_); rintro e w' ⟨rfl, hb⟩; have HM' := Lib.hid (HM.out.call hb); clear HM hb; have HM := HM'; clear HM')
          | (go_at_call 14; (first | (with_reducible refine (HX.out _ (Rd.own hR HM)).mono ?_) | (with_reducible refine (HY.out _ (Rd.own hR HM)).mono ?_)); rintro e w' ⟨rfl, hb⟩; have HM' := Lib.hid (HM.out.call hb); clear HM hb; have HM := HM'; clear HM')
          | (go_at_call 16; (with_reducible refine (HP.out _ (Tabs.own hT HM)).mono ?_); rintro e w' ⟨rfl, hb⟩; have HM' := Lib.hid (HM.out.call hb); clear HM hb; have HM := HM'; clear HM')
          | ((with_reducible apply own_cat); exact rfl; exact rfl; exact rfl; (first | assumption | decide | ((try simp only [List.length_append, List.length_cons, List.length_nil]); omega)); exact rfl; all_goals skip))
        go_roundw
        case rel =>
          refine ⟨1, by decide, rfl, ?_, ?_, HM⟩
          · rw [hstep.out, if_pos trivial]
          · rw [hstep.out, if_pos trivial]; rfl
        case measure => simp [intOf]
    · -- mark 1
      obtain ⟨s, hs⟩ : ∃ s, (F 1).1 = s := ⟨_, rfl⟩
      obtain ⟨nx, hnx⟩ : ∃ nx, (F 1).2 = nx := ⟨_, rfl⟩
      have hlen := HL.out 1 (by decide)
      rw [hs, hnx] at hlen
      have ls : s.length ≤ 50 := by omega
      have ln : nx ≤ 12 := by omega
      have hstep := HS.out 1
      rw [show mark 1 = [110, 110] from rfl, cStep, hs, hnx] at hstep
      obtain ⟨f, hf⟩ : ∃ f, (Lib.cut s [110, 110]).1 = f := ⟨_, rfl⟩
      obtain ⟨d, hd⟩ : ∃ d, (Lib.cut s [110, 110]).2.1 = d := ⟨_, rfl⟩
      obtain ⟨c, hc⟩ : ∃ c, (Lib.cut s [110, 110]).2.2 = c := ⟨_, rfl⟩
      have lf := len_cut s [110, 110]
      rw [hf, hd] at lf
      have HC : Hid (∀ w, Tabs w → Calls Tryd.prog 15 #[.string ⟨s.toArray⟩, .string ⟨#[110, 110]⟩] w fun e w' => e = .returned (.tuple #[.string ⟨f.toArray⟩, .string ⟨d.toArray⟩, .bool c]) ∧ Below w.heap.size w w') := by
        intro w hT
        have := cut_at s [110, 110] (by omega) w hT
        rw [hf, hd, hc] at this
        exact this
      rw [hf, hd, hc] at hstep
      obtain ⟨x, hx⟩ : ∃ x, bs.getD nx 0 = x := ⟨_, rfl⟩
      obtain ⟨y, hy⟩ : ∃ y, bs.getD (nx + 1) 0 = y := ⟨_, rfl⟩
      have x8 : x < 256 := by rw [← hx]; exact HB.out nx
      have y8 : y < 256 := by rw [← hy]; exact HB.out (nx + 1)
      have HX : Hid (∀ w, Rd w v (by8 bs) → Calls Tryd.prog 14 #[v, .int .i64 (nx : Int)] w fun e w' => e = .returned (.int .u8 (x : Int)) ∧ Below w.heap.size w w') := by
        intro w h
        have := at_at v bs nx (by omega) hl w h
        rw [hx] at this
        exact this
      have HY : Hid (∀ w, Rd w v (by8 bs) → Calls Tryd.prog 14 #[v, .int .i64 ((nx : Int) + 1)] w fun e w' => e = .returned (.int .u8 (y : Int)) ∧ Below w.heap.size w w') := by
        intro w h
        have := at_at v bs (nx + 1) (by omega) hl w h
        rw [hy] at this
        exact this
      obtain ⟨tx, htx⟩ : ∃ tx, cText [110, 110] x y = tx := ⟨_, rfl⟩
      have lt := len_text [110, 110] x y
      rw [htx] at lt
      rw [hx, hy, htx, show cSize [110, 110] = 2 from rfl] at hstep
      have HP : Hid (∀ w, Tabs w → Calls Tryd.prog 16 #[.string ⟨#[110, 110]⟩, .int .u8 (x : Int), .int .u8 (y : Int)] w fun e w' => e = .returned (.tuple #[.string ⟨tx.toArray⟩, .int .i64 2]) ∧ Below w.heap.size w w') := by
        intro w hT
        rw [← htx]
        exact spell_nn x y x8 y8 w hT
      have hstep := Lib.hid hstep
      clear hlen hx hy htx hf hd hc
      rw [hs, hnx]
      cases c
      · go_wp2_with (first
          | ((with_reducible apply own_index); exact rfl; exact rfl; exact rfl; exact midx1; exact rfl; all_goals skip)
          | (go_at_call 15; (with_reducible refine (HC.out _ (Tabs.own hT HM)).mono ?_); rintro e w' ⟨rfl, hb⟩; have HM' := Lib.hid (HM.out.call hb); clear HM hb; have HM := HM'; clear HM'))
        go_roundw
        case rel =>
          refine ⟨2, by decide, rfl, ?_, ?_, HM⟩
          · rw [hstep.out, if_neg (by decide), hs]
          · rw [hstep.out, if_neg (by decide), hnx]
        case measure => simp [intOf]
      · go_wp2_with (first
          | ((with_reducible apply own_index); exact rfl; exact rfl; exact rfl; exact midx1; exact rfl; all_goals skip)
          | (go_at_call 15; (with_reducible refine (HC.out _ (Tabs.own hT HM)).mono ?_); rintro e w' ⟨rfl, hb⟩; have HM' := Lib.hid (HM.out.call hb); clear HM hb; have HM := HM'; clear HM')
          | (go_at_call 14; (first | (with_reducible refine (HX.out _ (Rd.own hR HM)).mono ?_) | (with_reducible refine (HY.out _ (Rd.own hR HM)).mono ?_)); rintro e w' ⟨rfl, hb⟩; have HM' := Lib.hid (HM.out.call hb); clear HM hb; have HM := HM'; clear HM')
          | (go_at_call 16; (with_reducible refine (HP.out _ (Tabs.own hT HM)).mono ?_); rintro e w' ⟨rfl, hb⟩; have HM' := Lib.hid (HM.out.call hb); clear HM hb; have HM := HM'; clear HM')
          | ((with_reducible apply own_cat); exact rfl; exact rfl; exact rfl; (first | assumption | decide | ((try simp only [List.length_append, List.length_cons, List.length_nil]); omega)); exact rfl; all_goals skip))
        go_roundw
        case rel =>
          refine ⟨2, by decide, rfl, ?_, ?_, HM⟩
          · rw [hstep.out, if_pos trivial]
          · rw [hstep.out, if_pos trivial]; rfl
        case measure => simp [intOf]
    · -- mark 2
      obtain ⟨s, hs⟩ : ∃ s, (F 2).1 = s := ⟨_, rfl⟩
      obtain ⟨nx, hnx⟩ : ∃ nx, (F 2).2 = nx := ⟨_, rfl⟩
      have hlen := HL.out 2 (by decide)
      rw [hs, hnx] at hlen
      have ls : s.length ≤ 50 := by omega
      have ln : nx ≤ 12 := by omega
      have hstep := HS.out 2
      rw [show mark 2 = [110] from rfl, cStep, hs, hnx] at hstep
      obtain ⟨f, hf⟩ : ∃ f, (Lib.cut s [110]).1 = f := ⟨_, rfl⟩
      obtain ⟨d, hd⟩ : ∃ d, (Lib.cut s [110]).2.1 = d := ⟨_, rfl⟩
      obtain ⟨c, hc⟩ : ∃ c, (Lib.cut s [110]).2.2 = c := ⟨_, rfl⟩
      have lf := len_cut s [110]
      rw [hf, hd] at lf
      have HC : Hid (∀ w, Tabs w → Calls Tryd.prog 15 #[.string ⟨s.toArray⟩, .string ⟨#[110]⟩] w fun e w' => e = .returned (.tuple #[.string ⟨f.toArray⟩, .string ⟨d.toArray⟩, .bool c]) ∧ Below w.heap.size w w') := by
        intro w hT
        have := cut_at s [110] (by omega) w hT
        rw [hf, hd, hc] at this
        exact this
      rw [hf, hd, hc] at hstep
      obtain ⟨x, hx⟩ : ∃ x, bs.getD nx 0 = x := ⟨_, rfl⟩
      obtain ⟨y, hy⟩ : ∃ y, bs.getD (nx + 1) 0 = y := ⟨_, rfl⟩
      have x8 : x < 256 := by rw [← hx]; exact HB.out nx
      have y8 : y < 256 := by rw [← hy]; exact HB.out (nx + 1)
      have HX : Hid (∀ w, Rd w v (by8 bs) → Calls Tryd.prog 14 #[v, .int .i64 (nx : Int)] w fun e w' => e = .returned (.int .u8 (x : Int)) ∧ Below w.heap.size w w') := by
        intro w h
        have := at_at v bs nx (by omega) hl w h
        rw [hx] at this
        exact this
      have HY : Hid (∀ w, Rd w v (by8 bs) → Calls Tryd.prog 14 #[v, .int .i64 ((nx : Int) + 1)] w fun e w' => e = .returned (.int .u8 (y : Int)) ∧ Below w.heap.size w w') := by
        intro w h
        have := at_at v bs (nx + 1) (by omega) hl w h
        rw [hy] at this
        exact this
      obtain ⟨tx, htx⟩ : ∃ tx, cText [110] x y = tx := ⟨_, rfl⟩
      have lt := len_text [110] x y
      rw [htx] at lt
      rw [hx, hy, htx, show cSize [110] = 1 from rfl] at hstep
      have HP : Hid (∀ w, Tabs w → Calls Tryd.prog 16 #[.string ⟨#[110]⟩, .int .u8 (x : Int), .int .u8 (y : Int)] w fun e w' => e = .returned (.tuple #[.string ⟨tx.toArray⟩, .int .i64 1]) ∧ Below w.heap.size w w') := by
        intro w hT
        rw [← htx]
        exact spell_n x y x8 y8 w hT
      have hstep := Lib.hid hstep
      clear hlen hx hy htx hf hd hc
      rw [hs, hnx]
      cases c
      · go_wp2_with (first
          | ((with_reducible apply own_index); exact rfl; exact rfl; exact rfl; exact midx2; exact rfl; all_goals skip)
          | (go_at_call 15; (with_reducible refine (HC.out _ (Tabs.own hT HM)).mono ?_); rintro e w' ⟨rfl, hb⟩; have HM' := Lib.hid (HM.out.call hb); clear HM hb; have HM := HM'; clear HM'))
        go_roundw
        case rel =>
          refine ⟨3, by decide, rfl, ?_, ?_, HM⟩
          · rw [hstep.out, if_neg (by decide), hs]
          · rw [hstep.out, if_neg (by decide), hnx]
        case measure => simp [intOf]
      · go_wp2_with (first
          | ((with_reducible apply own_index); exact rfl; exact rfl; exact rfl; exact midx2; exact rfl; all_goals skip)
          | (go_at_call 15; (with_reducible refine (HC.out _ (Tabs.own hT HM)).mono ?_); rintro e w' ⟨rfl, hb⟩; have HM' := Lib.hid (HM.out.call hb); clear HM hb; have HM := HM'; clear HM')
          | (go_at_call 14; (first | (with_reducible refine (HX.out _ (Rd.own hR HM)).mono ?_) | (with_reducible refine (HY.out _ (Rd.own hR HM)).mono ?_)); rintro e w' ⟨rfl, hb⟩; have HM' := Lib.hid (HM.out.call hb); clear HM hb; have HM := HM'; clear HM')
          | (go_at_call 16; (with_reducible refine (HP.out _ (Tabs.own hT HM)).mono ?_); rintro e w' ⟨rfl, hb⟩; have HM' := Lib.hid (HM.out.call hb); clear HM hb; have HM := HM'; clear HM')
          | ((with_reducible apply own_cat); exact rfl; exact rfl; exact rfl; (first | assumption | decide | ((try simp only [List.length_append, List.length_cons, List.length_nil]); omega)); exact rfl; all_goals skip))
        go_roundw
        case rel =>
          refine ⟨3, by decide, rfl, ?_, ?_, HM⟩
          · rw [hstep.out, if_pos trivial]
          · rw [hstep.out, if_pos trivial]; rfl
        case measure => simp [intOf]
    · -- mark 3
      obtain ⟨s, hs⟩ : ∃ s, (F 3).1 = s := ⟨_, rfl⟩
      obtain ⟨nx, hnx⟩ : ∃ nx, (F 3).2 = nx := ⟨_, rfl⟩
      have hlen := HL.out 3 (by decide)
      rw [hs, hnx] at hlen
      have ls : s.length ≤ 50 := by omega
      have ln : nx ≤ 12 := by omega
      have hstep := HS.out 3
      rw [show mark 3 = [101] from rfl, cStep, hs, hnx] at hstep
      obtain ⟨f, hf⟩ : ∃ f, (Lib.cut s [101]).1 = f := ⟨_, rfl⟩
      obtain ⟨d, hd⟩ : ∃ d, (Lib.cut s [101]).2.1 = d := ⟨_, rfl⟩
      obtain ⟨c, hc⟩ : ∃ c, (Lib.cut s [101]).2.2 = c := ⟨_, rfl⟩
      have lf := len_cut s [101]
      rw [hf, hd] at lf
      have HC : Hid (∀ w, Tabs w → Calls Tryd.prog 15 #[.string ⟨s.toArray⟩, .string ⟨#[101]⟩] w fun e w' => e = .returned (.tuple #[.string ⟨f.toArray⟩, .string ⟨d.toArray⟩, .bool c]) ∧ Below w.heap.size w w') := by
        intro w hT
        have := cut_at s [101] (by omega) w hT
        rw [hf, hd, hc] at this
        exact this
      rw [hf, hd, hc] at hstep
      obtain ⟨x, hx⟩ : ∃ x, bs.getD nx 0 = x := ⟨_, rfl⟩
      obtain ⟨y, hy⟩ : ∃ y, bs.getD (nx + 1) 0 = y := ⟨_, rfl⟩
      have x8 : x < 256 := by rw [← hx]; exact HB.out nx
      have y8 : y < 256 := by rw [← hy]; exact HB.out (nx + 1)
      have HX : Hid (∀ w, Rd w v (by8 bs) → Calls Tryd.prog 14 #[v, .int .i64 (nx : Int)] w fun e w' => e = .returned (.int .u8 (x : Int)) ∧ Below w.heap.size w w') := by
        intro w h
        have := at_at v bs nx (by omega) hl w h
        rw [hx] at this
        exact this
      have HY : Hid (∀ w, Rd w v (by8 bs) → Calls Tryd.prog 14 #[v, .int .i64 ((nx : Int) + 1)] w fun e w' => e = .returned (.int .u8 (y : Int)) ∧ Below w.heap.size w w') := by
        intro w h
        have := at_at v bs (nx + 1) (by omega) hl w h
        rw [hy] at this
        exact this
      obtain ⟨tx, htx⟩ : ∃ tx, cText [101] x y = tx := ⟨_, rfl⟩
      have lt := len_text [101] x y
      rw [htx] at lt
      rw [hx, hy, htx, show cSize [101] = 1 from rfl] at hstep
      have HP : Hid (∀ w, Tabs w → Calls Tryd.prog 16 #[.string ⟨#[101]⟩, .int .u8 (x : Int), .int .u8 (y : Int)] w fun e w' => e = .returned (.tuple #[.string ⟨tx.toArray⟩, .int .i64 1]) ∧ Below w.heap.size w w') := by
        intro w hT
        rw [← htx]
        by_cases h : x < 128
        · exact spell_eu x y x8 y8 h w hT
        · exact spell_ed x y x8 y8 (by omega) w hT
      have hstep := Lib.hid hstep
      clear hlen hx hy htx hf hd hc
      rw [hs, hnx]
      cases c
      · go_wp2_with (first
          | ((with_reducible apply own_index); exact rfl; exact rfl; exact rfl; exact midx3; exact rfl; all_goals skip)
          | (go_at_call 15; (with_reducible refine (HC.out _ (Tabs.own hT HM)).mono ?_); rintro e w' ⟨rfl, hb⟩; have HM' := Lib.hid (HM.out.call hb); clear HM hb; have HM := HM'; clear HM'))
        go_roundw
        case rel =>
          refine ⟨4, by decide, rfl, ?_, ?_, HM⟩
          · rw [hstep.out, if_neg (by decide), hs]
          · rw [hstep.out, if_neg (by decide), hnx]
        case measure => simp [intOf]
      · go_wp2_with (first
          | ((with_reducible apply own_index); exact rfl; exact rfl; exact rfl; exact midx3; exact rfl; all_goals skip)
          | (go_at_call 15; (with_reducible refine (HC.out _ (Tabs.own hT HM)).mono ?_); rintro e w' ⟨rfl, hb⟩; have HM' := Lib.hid (HM.out.call hb); clear HM hb; have HM := HM'; clear HM')
          | (go_at_call 14; (first | (with_reducible refine (HX.out _ (Rd.own hR HM)).mono ?_) | (with_reducible refine (HY.out _ (Rd.own hR HM)).mono ?_)); rintro e w' ⟨rfl, hb⟩; have HM' := Lib.hid (HM.out.call hb); clear HM hb; have HM := HM'; clear HM')
          | (go_at_call 16; (with_reducible refine (HP.out _ (Tabs.own hT HM)).mono ?_); rintro e w' ⟨rfl, hb⟩; have HM' := Lib.hid (HM.out.call hb); clear HM hb; have HM := HM'; clear HM')
          | ((with_reducible apply own_cat); exact rfl; exact rfl; exact rfl; (first | assumption | decide | ((try simp only [List.length_append, List.length_cons, List.length_nil]); omega)); exact rfl; all_goals skip))
        go_roundw
        case rel =>
          refine ⟨4, by decide, rfl, ?_, ?_, HM⟩
          · rw [hstep.out, if_pos trivial]
          · rw [hstep.out, if_pos trivial]; rfl
        case measure => simp [intOf]
    · -- behind the last mark
      obtain ⟨s, hs⟩ : ∃ s, (F 4).1 = s := ⟨_, rfl⟩
      obtain ⟨nx, hnx⟩ : ∃ nx, (F 4).2 = nx := ⟨_, rfl⟩
      have hlen := HL.out 4 (by decide)
      rw [hs, hnx] at hlen ⊢
      have ln : nx ≤ 12 := by omega
      have em : ((max nx (q + 1) : Nat) : Int) = max (nx : Int) ((q : Int) + 1) := by omega
      have HE : Hid ((Value.int .i64 ((max (F 4).2 (q + 1) : Nat) : Int)) = .int .i64 (max (nx : Int) ((q : Int) + 1))) := by show _ = _; rw [hnx, em]
      clear hlen em
      go_wp2_with fail
      (refine own_region HM (by kernel_rfl) (by kernel_rfl) ?_; (try simp only [Act.put, List.setIfInBounds_toArray, List.set_cons_zero, List.set_cons_succ]); repeat ((fail_if_success (with_reducible refine wpQuiet_nil ?_)); first | go_big_quiet_skip | (go_big_quiet_want; first | ((with_reducible apply quiet_cell); exact rfl; (first | (with_reducible exact oneInt)); (first | with_reducible exact .z | with_reducible exact .s .z | with_reducible exact .s (.s .z) | with_reducible exact .s (.s (.s .z)) | with_reducible exact .s (.s (.s (.s .z))) | with_reducible exact .s (.s (.s (.s (.s .z))))); (focus repeat' (first | with_reducible exact .z | with_reducible apply Drop.s)); go_big_quiet_op; go_big_quiet_on) | (go_big_quiet_op; go_big_quiet_on) | (go_big_quiet_op; refine ⟨_, fun _ _ => rfl, ?_⟩; go_big_quiet_on))))
      refine wpQuiet_nil ?_
      intro w' HM'
      clear HM; have HM := HM'; clear HM'
      go_wp2_with fail
      go_ret2
      exact ⟨by rw [HE.out, hs]; rfl, Own.fin HM⟩
end Go.Proofs.YtaiceidmcelapaaDoor
