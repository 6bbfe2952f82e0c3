/-
  The law PortKeeps returns true for all acts and any byte, and writes nothing that was there.
-/
import Derived.Test.YtbjghlcdbmooaaaPoKeeps0
import Derived.Deep.Cut
import Derived.Deep.CutRange
namespace Go.Proofs.Ytbjghlcdbmooaaa
open Go.RowKit

set_option maxRecDepth 100000 in
set_option maxHeartbeats 400000 in
theorem keeps_out (a : Option Addr) (n cap : Nat) (x : Nat) (hh : (200 : Int) < (n : Int)) (w : World) :
    Calls Try.prog 7 #[.slice a n cap, .int .u8 (x : Int)] w fun e w' => e = .returned (.bool true) ∧ Below w.heap.size w w' := by
  have HM := Lib.hid (Own.start w)
  go_enter Try.func7, Try.ntmps7
  go_wp2_with (go_at_call 8; (with_reducible refine (alive_any _).mono ?_); rintro e w' ⟨rfl, hb⟩; replace HM := Lib.hid (HM.out.call hb); clear hb)
  go_ret
  exact ⟨rfl, Own.fin HM⟩

set_option maxRecDepth 100000 in
set_option maxHeartbeats 1600000 in
theorem keeps_in (a : Option Addr) (n cap : Nat) (hn : n ≤ 200) (ac : Nat → Int × Int × Nat) (x : Nat) (hx : x < 256) (w : World) (ha : ActsIn w w.heap.size a n ac) :
    Calls Try.prog 7 #[.slice a n cap, .int .u8 (x : Int)] w fun e w' => e = .returned (.bool true) ∧ Below w.heap.size w w' := by
  have HM := Lib.hid (Own.start w)
  have HA := Lib.hid ha
  have hn2 : ¬ (200 : Int) < (n : Int) := by omega
  have tg1 : Hid True := trivial
  clear ha
  go_enter Try.func7, Try.ntmps7
  go_wp2_with (first
    | (go_at_call 8; (with_reducible refine (alive_any _).mono ?_); rintro e w' ⟨rfl, hb⟩; replace HM := Lib.hid (HM.out.call hb); clear hb)
    | (go_at_call 9; (with_reducible refine (new_at HM).mono ?_); rintro e w' ⟨p, rfl, HM'⟩; clear HM; have HM := HM'; clear HM'))
  go_loopw [18] (fun at_ wr => ∃ (k : Nat), k ≤ n ∧ at_ = .int .i64 (k : Int) ∧ Hid (Own w wr [Po p (runK ac k)])) (fun at_ _ => n - (intOf at_).toNat)
  case atStart => exact ⟨0, by omega, rfl, HM⟩
  case round =>
    clear HM
    obtain ⟨k, hk, rfl, HM⟩ := hrel
    have hok : ∀ j, j ≤ n → (runK ac j).Ok := fun j hj => runK_ok ac j fun i hi => by
      obtain ⟨g, o, rfl, hg, hc⟩ := HA.out (by omega)
      exact (hc i (by omega)).2.2.2
    obtain ⟨s, hs⟩ : ∃ s, runK ac k = s := ⟨_, rfl⟩
    have o1 := hok k hk
    rw [hs] at HM o1
    by_cases hlt : k < n
    · have hlt2 : (k : Int) < (n : Int) := by omega
      have hk3 : (k : Int) < 200 := by omega
      obtain ⟨ga, o, rfl, hg, hc⟩ := HA.out (by omega)
      obtain ⟨y0, y1, y2, y3⟩ := hc k hlt
      have hnext : runK ac (k + 1) = s.act (ac k) := by show (runK ac k).act (ac k) = _; rw [hs]
      obtain ⟨⟨kind, at_, v⟩, hx⟩ : ∃ x, ac k = x := ⟨_, rfl⟩
      rw [hx] at y0 y1 y2 y3 hnext
      have Y0 := Lib.hid y0
      have Y1 := Lib.hid y1
      have Y2 := Lib.hid y2
      have HN := Lib.hid hnext
      clear hk hc y0 y1 y2 hnext hs hok hx
      by_cases k0 : kind = 0
      · subst k0
        go_wp2_with (first
          | ((with_reducible apply own_box HM); exact rfl; (conv => lhs; whnf); exact rfl; exact rfl; (first | (clear tg1; intro w' g1 HM') | (clear tg2; intro w' g2 HM') | (clear tg3; intro w' g3 HM') | (clear tg4; intro w' g4 HM') | intro w' g' HM'); clear HM; have HM := HM'; clear HM'; all_goals skip) | ((with_reducible apply own_alloc HM); exact rfl; (first | (with_reducible exact zeroAct)); exact rfl; (first | (clear tg1; intro w' g1 HM') | (clear tg2; intro w' g2 HM') | (clear tg3; intro w' g3 HM') | (clear tg4; intro w' g4 HM') | intro w' g' HM'); clear HM; have HM := HM'; clear HM'; all_goals skip) | ((with_reducible apply own_cell HM); exact rfl; exact rfl; (first | (with_reducible exact oneInt) | (with_reducible exact oneU8)); (first | with_reducible exact .z | with_reducible exact .s .z | with_reducible exact .s (.s .z) | with_reducible exact .s (.s (.s .z)) | with_reducible exact .s (.s (.s (.s .z))) | with_reducible exact .s (.s (.s (.s (.s .z))))); (focus repeat' (first | with_reducible exact .z | with_reducible apply Drop.s)); exact rfl; all_goals skip) | ((with_reducible apply own_load HM); exact rfl; exact rfl; (first | (with_reducible exact aggAct)); (first | with_reducible exact .z | with_reducible exact .s .z | with_reducible exact .s (.s .z) | with_reducible exact .s (.s (.s .z)) | with_reducible exact .s (.s (.s (.s .z))) | with_reducible exact .s (.s (.s (.s (.s .z))))); (focus repeat' (first | with_reducible exact .z | with_reducible apply Drop.s)); (focus repeat' (first | with_reducible exact .z | with_reducible apply Take.s)); exact rfl; all_goals skip) | ((with_reducible apply own_store HM); exact rfl; exact rfl; (conv => lhs; whnf); exact rfl; (first | with_reducible exact .z | with_reducible exact .s .z | with_reducible exact .s (.s .z) | with_reducible exact .s (.s (.s .z)) | with_reducible exact .s (.s (.s (.s .z))) | with_reducible exact .s (.s (.s (.s (.s .z))))); (focus repeat' (first | with_reducible exact .z | with_reducible apply Over.p | with_reducible apply Over.s)); (first | with_reducible exact .z | with_reducible exact .s .z | with_reducible exact .s (.s .z) | with_reducible exact .s (.s (.s .z)) | with_reducible exact .s (.s (.s (.s .z))) | with_reducible exact .s (.s (.s (.s (.s .z))))); (first | (with_reducible exact (aggAct).size) | (with_reducible exact (oneInt).size) | (with_reducible exact (oneU8).size)); exact rfl; exact rfl; exact rfl; exact rfl; intro w' HM'; clear HM; have HM := HM'; clear HM'; all_goals skip)
          | ((with_reducible apply own_old3 HM); exact rfl; exact rfl; exact aggAct; exact Y0.out; exact Y1.out; exact Y2.out; exact rfl; all_goals skip)
          | (go_at_call 15; (with_reducible refine (control_at v y3 o1 (Lib.hid (HM.out.perm (List.Perm.swap _ _ _)))).mono ?_); rintro e w' ⟨rfl, HM'⟩; clear HM; have HM := HM'; clear HM'))
        go_roundw
        case rel => exact ⟨k + 1, by omega, by go_num, by rw [HN.out]; unfold Pt.act; rw [if_pos rfl]; exact Lib.hid (HM.out.sub (.cons_cons _ (List.nil_sublist _)))⟩
        case measure => simp [intOf]; omega
      · by_cases k1 : kind = 1
        · subst k1
          go_wp2_with (first
            | ((with_reducible apply own_box HM); exact rfl; (conv => lhs; whnf); exact rfl; exact rfl; (first | (clear tg1; intro w' g1 HM') | (clear tg2; intro w' g2 HM') | (clear tg3; intro w' g3 HM') | (clear tg4; intro w' g4 HM') | intro w' g' HM'); clear HM; have HM := HM'; clear HM'; all_goals skip) | ((with_reducible apply own_alloc HM); exact rfl; (first | (with_reducible exact zeroAct)); exact rfl; (first | (clear tg1; intro w' g1 HM') | (clear tg2; intro w' g2 HM') | (clear tg3; intro w' g3 HM') | (clear tg4; intro w' g4 HM') | intro w' g' HM'); clear HM; have HM := HM'; clear HM'; all_goals skip) | ((with_reducible apply own_cell HM); exact rfl; exact rfl; (first | (with_reducible exact oneInt) | (with_reducible exact oneU8)); (first | with_reducible exact .z | with_reducible exact .s .z | with_reducible exact .s (.s .z) | with_reducible exact .s (.s (.s .z)) | with_reducible exact .s (.s (.s (.s .z))) | with_reducible exact .s (.s (.s (.s (.s .z))))); (focus repeat' (first | with_reducible exact .z | with_reducible apply Drop.s)); exact rfl; all_goals skip) | ((with_reducible apply own_load HM); exact rfl; exact rfl; (first | (with_reducible exact aggAct)); (first | with_reducible exact .z | with_reducible exact .s .z | with_reducible exact .s (.s .z) | with_reducible exact .s (.s (.s .z)) | with_reducible exact .s (.s (.s (.s .z))) | with_reducible exact .s (.s (.s (.s (.s .z))))); (focus repeat' (first | with_reducible exact .z | with_reducible apply Drop.s)); (focus repeat' (first | with_reducible exact .z | with_reducible apply Take.s)); exact rfl; all_goals skip) | ((with_reducible apply own_store HM); exact rfl; exact rfl; (conv => lhs; whnf); exact rfl; (first | with_reducible exact .z | with_reducible exact .s .z | with_reducible exact .s (.s .z) | with_reducible exact .s (.s (.s .z)) | with_reducible exact .s (.s (.s (.s .z))) | with_reducible exact .s (.s (.s (.s (.s .z))))); (focus repeat' (first | with_reducible exact .z | with_reducible apply Over.p | with_reducible apply Over.s)); (first | with_reducible exact .z | with_reducible exact .s .z | with_reducible exact .s (.s .z) | with_reducible exact .s (.s (.s .z)) | with_reducible exact .s (.s (.s (.s .z))) | with_reducible exact .s (.s (.s (.s (.s .z))))); (first | (with_reducible exact (aggAct).size) | (with_reducible exact (oneInt).size) | (with_reducible exact (oneU8).size)); exact rfl; exact rfl; exact rfl; exact rfl; intro w' HM'; clear HM; have HM := HM'; clear HM'; all_goals skip)
            | ((with_reducible apply own_old3 HM); exact rfl; exact rfl; exact aggAct; exact Y0.out; exact Y1.out; exact Y2.out; exact rfl; all_goals skip)
            | (go_at_call 17; (with_reducible refine (write_at v y3 o1 (Lib.hid (HM.out.perm (List.Perm.swap _ _ _)))).mono ?_); rintro e w' ⟨rfl, HM'⟩; clear HM; have HM := HM'; clear HM'))
          go_roundw
          case rel => exact ⟨k + 1, by omega, by go_num, by rw [HN.out]; unfold Pt.act; rw [if_neg (show ¬ (1 : Int) = 0 by decide), if_pos rfl]; exact Lib.hid (HM.out.sub (.cons_cons _ (List.nil_sublist _)))⟩
          case measure => simp [intOf]; omega
        · by_cases k2 : kind = 2
          · subst k2
            go_wp2_with (first
              | ((with_reducible apply own_box HM); exact rfl; (conv => lhs; whnf); exact rfl; exact rfl; (first | (clear tg1; intro w' g1 HM') | (clear tg2; intro w' g2 HM') | (clear tg3; intro w' g3 HM') | (clear tg4; intro w' g4 HM') | intro w' g' HM'); clear HM; have HM := HM'; clear HM'; all_goals skip) | ((with_reducible apply own_alloc HM); exact rfl; (first | (with_reducible exact zeroAct)); exact rfl; (first | (clear tg1; intro w' g1 HM') | (clear tg2; intro w' g2 HM') | (clear tg3; intro w' g3 HM') | (clear tg4; intro w' g4 HM') | intro w' g' HM'); clear HM; have HM := HM'; clear HM'; all_goals skip) | ((with_reducible apply own_cell HM); exact rfl; exact rfl; (first | (with_reducible exact oneInt) | (with_reducible exact oneU8)); (first | with_reducible exact .z | with_reducible exact .s .z | with_reducible exact .s (.s .z) | with_reducible exact .s (.s (.s .z)) | with_reducible exact .s (.s (.s (.s .z))) | with_reducible exact .s (.s (.s (.s (.s .z))))); (focus repeat' (first | with_reducible exact .z | with_reducible apply Drop.s)); exact rfl; all_goals skip) | ((with_reducible apply own_load HM); exact rfl; exact rfl; (first | (with_reducible exact aggAct)); (first | with_reducible exact .z | with_reducible exact .s .z | with_reducible exact .s (.s .z) | with_reducible exact .s (.s (.s .z)) | with_reducible exact .s (.s (.s (.s .z))) | with_reducible exact .s (.s (.s (.s (.s .z))))); (focus repeat' (first | with_reducible exact .z | with_reducible apply Drop.s)); (focus repeat' (first | with_reducible exact .z | with_reducible apply Take.s)); exact rfl; all_goals skip) | ((with_reducible apply own_store HM); exact rfl; exact rfl; (conv => lhs; whnf); exact rfl; (first | with_reducible exact .z | with_reducible exact .s .z | with_reducible exact .s (.s .z) | with_reducible exact .s (.s (.s .z)) | with_reducible exact .s (.s (.s (.s .z))) | with_reducible exact .s (.s (.s (.s (.s .z))))); (focus repeat' (first | with_reducible exact .z | with_reducible apply Over.p | with_reducible apply Over.s)); (first | with_reducible exact .z | with_reducible exact .s .z | with_reducible exact .s (.s .z) | with_reducible exact .s (.s (.s .z)) | with_reducible exact .s (.s (.s (.s .z))) | with_reducible exact .s (.s (.s (.s (.s .z))))); (first | (with_reducible exact (aggAct).size) | (with_reducible exact (oneInt).size) | (with_reducible exact (oneU8).size)); exact rfl; exact rfl; exact rfl; exact rfl; intro w' HM'; clear HM; have HM := HM'; clear HM'; all_goals skip)
              | ((with_reducible apply own_old3 HM); exact rfl; exact rfl; exact aggAct; exact Y0.out; exact Y1.out; exact Y2.out; exact rfl; all_goals skip)
              | (go_at_call 19; (with_reducible refine (read_at o1 (Lib.hid (HM.out.perm (List.Perm.swap _ _ _)))).mono ?_); rintro e w' ⟨rfl, HM'⟩; clear HM; have HM := HM'; clear HM'))
            go_roundw
            case rel => exact ⟨k + 1, by omega, by go_num, by rw [HN.out]; unfold Pt.act; rw [if_neg (show ¬ (2 : Int) = 0 by decide), if_neg (show ¬ (2 : Int) = 1 by decide), if_pos rfl]; exact Lib.hid (HM.out.sub (.cons_cons _ (List.nil_sublist _)))⟩
            case measure => simp [intOf]; omega
          · go_wp2_with (first
              | ((with_reducible apply own_box HM); exact rfl; (conv => lhs; whnf); exact rfl; exact rfl; (first | (clear tg1; intro w' g1 HM') | (clear tg2; intro w' g2 HM') | (clear tg3; intro w' g3 HM') | (clear tg4; intro w' g4 HM') | intro w' g' HM'); clear HM; have HM := HM'; clear HM'; all_goals skip) | ((with_reducible apply own_alloc HM); exact rfl; (first | (with_reducible exact zeroAct)); exact rfl; (first | (clear tg1; intro w' g1 HM') | (clear tg2; intro w' g2 HM') | (clear tg3; intro w' g3 HM') | (clear tg4; intro w' g4 HM') | intro w' g' HM'); clear HM; have HM := HM'; clear HM'; all_goals skip) | ((with_reducible apply own_cell HM); exact rfl; exact rfl; (first | (with_reducible exact oneInt) | (with_reducible exact oneU8)); (first | with_reducible exact .z | with_reducible exact .s .z | with_reducible exact .s (.s .z) | with_reducible exact .s (.s (.s .z)) | with_reducible exact .s (.s (.s (.s .z))) | with_reducible exact .s (.s (.s (.s (.s .z))))); (focus repeat' (first | with_reducible exact .z | with_reducible apply Drop.s)); exact rfl; all_goals skip) | ((with_reducible apply own_load HM); exact rfl; exact rfl; (first | (with_reducible exact aggAct)); (first | with_reducible exact .z | with_reducible exact .s .z | with_reducible exact .s (.s .z) | with_reducible exact .s (.s (.s .z)) | with_reducible exact .s (.s (.s (.s .z))) | with_reducible exact .s (.s (.s (.s (.s .z))))); (focus repeat' (first | with_reducible exact .z | with_reducible apply Drop.s)); (focus repeat' (first | with_reducible exact .z | with_reducible apply Take.s)); exact rfl; all_goals skip) | ((with_reducible apply own_store HM); exact rfl; exact rfl; (conv => lhs; whnf); exact rfl; (first | with_reducible exact .z | with_reducible exact .s .z | with_reducible exact .s (.s .z) | with_reducible exact .s (.s (.s .z)) | with_reducible exact .s (.s (.s (.s .z))) | with_reducible exact .s (.s (.s (.s (.s .z))))); (focus repeat' (first | with_reducible exact .z | with_reducible apply Over.p | with_reducible apply Over.s)); (first | with_reducible exact .z | with_reducible exact .s .z | with_reducible exact .s (.s .z) | with_reducible exact .s (.s (.s .z)) | with_reducible exact .s (.s (.s (.s .z))) | with_reducible exact .s (.s (.s (.s (.s .z))))); (first | (with_reducible exact (aggAct).size) | (with_reducible exact (oneInt).size) | (with_reducible exact (oneU8).size)); exact rfl; exact rfl; exact rfl; exact rfl; intro w' HM'; clear HM; have HM := HM'; clear HM'; all_goals skip)
              | ((with_reducible apply own_old3 HM); exact rfl; exact rfl; exact aggAct; exact Y0.out; exact Y1.out; exact Y2.out; exact rfl; all_goals skip))
            go_roundw
            case rel => exact ⟨k + 1, by omega, by go_num, by rw [HN.out]; unfold Pt.act; rw [if_neg k0, if_neg k1, if_neg k2]; exact Lib.hid HM.out.forget⟩
            case measure => simp [intOf]; omega
    · have hlt2 : ¬ (k : Int) < (n : Int) := by omega
      obtain rfl : k = n := by omega
      have HB : Hid ((runK ac k).bu = s.bu) := by show _ = _; rw [hs]
      clear hk hok hlt hs
      go_upto_region 18 with ((go_at_call 9; (with_reducible refine (new_at HM).mono ?_); rintro e w' ⟨q, rfl, HM'⟩; clear HM; have HM := HM'; clear HM'))
      go_cut [55] from 42 to 55 (fun s55 wx => s55 = .bool false ∧ Hid (Own w wx [Po p s, Po q s]))
      case' first =>
        have HMd : Hid (Own w _ [Po p s, Po q .nil]) := Lib.hid (HM.out.drew.perm (List.Perm.swap _ _ _))
        obtain ⟨T, hT⟩ : ∃ T, Value.string T = tx s.dump := ⟨_, rfl⟩
        have HTX : Hid (∀ (W0 w : World) (l : Blks) (g c : Nat) (ex : List Value), Own W0 w l → Sel l g 5 (n8 s.dump ++ ex) → (convert 25 9 (.slice (some ⟨g, 0, none⟩) 16433 c)).run Try.prog w = .ok (.string T) w) := fun _ _ _ _ _ _ h hsel => by
          rw [hT]; exact text_of h hsel (Pt.dump_length o1)
        have HLD := Lib.hid (load_dump o1)
        have hl := Lib.hid (Pt.dump_length o1)
        have h8 := Lib.hid (Pt.dump_lt o1)
        have hr := Lib.hid (dump_right o1)
        clear HM hT
        go_region_with (first
          | (go_at_call 10; (with_reducible refine (dump_at o1 HMd).mono ?_); rintro e w1 ⟨g1, c1, ex1, rfl, hc1, HM1⟩; have HM1q : Hid (Own w w1 [Po q .nil, (g1, 5, n8 s.dump ++ ex1), Po p s]) := HM1.out.perm (List.perm_append_singleton _ [_, _]))
          | (go_at_call 11; (with_reducible refine (load_good Pt.nil_ok HM1q .z hl.out hc1 h8.out hr.out).mono ?_); rw [HLD.out]; rintro e w2 ⟨rfl, HM2⟩)
          | (go_at_call 10; (with_reducible refine (dump_at o1 HM2).mono ?_); rintro e w3 ⟨g3, c3, ex3, rfl, hc3, HM3⟩; have cv3 := HTX.out _ _ _ _ c3 _ HM3.out .z; have HM3p : Hid (Own w w3 [Po p s, (g3, 5, n8 s.dump ++ ex3), Po q s, (g1, 5, n8 s.dump ++ ex1)]) := HM3.out.perm (List.perm_append_singleton _ [_, _, _]))
          | (go_at_call 10; (with_reducible refine (dump_at o1 HM3p).mono ?_); rintro e w4 ⟨g4, c4, ex4, rfl, hc4, HM4⟩; have cv4 := HTX.out _ _ _ _ c4 _ HM4.out .z; have cv5 := HTX.out _ _ _ _ c3 _ HM4.out (.s (.s .z)); have HX : Hid (Own w w4 [Po p s, Po q s]) := HM4.out.sub (.cons _ (.cons_cons _ (.cons _ (.cons_cons _ (List.nil_sublist _)))))))
        all_goals
          clear cv3
          go_wp2_with fail
          go_meet
          exact ⟨rfl, HX⟩
      case' rest =>
        clear HM
        obtain ⟨rfl, HM⟩ := hcut
        obtain ⟨s2, h2⟩ : ∃ s2, (s.setSe false).control x = s2 := ⟨_, rfl⟩
        have o1' : (s.setSe false).Ok := o1.setSe false
        have o2 : s2.Ok := by rw [← h2]; exact o1'.control hx
        obtain ⟨v, hv⟩ : ∃ v, v = 139 + x % 5 := ⟨_, rfl⟩
        have v1 : v < 256 := by omega
        obtain ⟨s3, h3⟩ : ∃ s3, s2.control v = s3 := ⟨_, rfl⟩
        have o3 : s3.Ok := by rw [← h3]; exact o2.control v1
        have HG : Hid (s3.rg = s.rg) := by show _ = _; rw [← h3, ← h2]; exact reg_stays hv rfl
        have H2 := Lib.hid h2
        have H3 := Lib.hid h3
        have HL : Hid (s.rg.length = 11) := o1.g
        obtain ⟨y, hy⟩ : ∃ y, y = x % 5 := ⟨_, rfl⟩
        have e1 : (x : Int) % 5 = (y : Int) := by omega
        have e2 : (x : Int).tmod 5 = (y : Int) := by rw [Int.tmod_eq_emod_of_nonneg (by omega)]; exact e1
        have e3 : (139 + (y : Int)) % 256 = (v : Int) := by omega
        have e4 : 139 + (y : Int) = (v : Int) := by omega
        clear h2 h3 hv hy
        go_upto_region 24 with (first
          | (go_at_call 21; (with_reducible refine (forget_at o1 HM).mono ?_); rintro e w' ⟨rfl, HM'⟩; clear HM; have HM := HM'; clear HM')
          | (go_at_call 13; (with_reducible refine (regs_at o1' HM).mono ?_); rintro e w' ⟨rfl, HM'⟩; clear HM; have HM := HM'; clear HM')
          | ((with_reducible apply own_alloc HM); exact rfl; exact zero11; exact rfl; intro w' gb HM'; clear HM; have HM := HM'; clear HM')
          | ((with_reducible apply own_lay HM); exact rfl; exact rfl; exact rfl; (with_reducible exact .z); (with_reducible exact .z); exact agg11.size; (focus (rw [n8_length]; exact HL.out)); exact rfl; exact List.all_eq_true.2 (n8_one _); exact rfl; exact rfl; intro w' HM'; have HM2 : Hid (Own w w' [Po p (s.setSe false), Po q s, (gb, 30, n8 s.rg)]) := HM'.out.perm (List.perm_append_singleton _ [_, _]).symm; clear HM HM'; have HM := HM2; clear HM2)
          | (go_at_call 15; (with_reducible refine (control_at x hx o1' HM).mono ?_); rw [H2.out]; rintro e w' ⟨rfl, HM'⟩; clear HM; have HM := HM'; clear HM')
          | (go_at_call 15; (with_reducible refine (control_at v v1 o2 HM).mono ?_); rw [H3.out]; rintro e w' ⟨rfl, HM'⟩; clear HM; have HM := HM'; clear HM'))
        refine wp_region_held (S := fun w' => Own w w' [(gb, 30, n8 s.rg)]) (by kernel_rfl) ?_
        replace HM := Lib.hid HM.out.drew
        change wpAnyH _ _ _ _ _ _ _ _ (World.drew _)
        have HQ := HM.out.forget.forget
        refine h_take (i := 0) (d := 68) (v := .pointer (some ⟨p, 0, none⟩)) rfl rfl (by kernel_rfl) (by kernel_rfl) (by kernel_rfl) (fun _ _ _ h => h) (y_pure rfl (fun w => by go_simp)) HQ ?_
        (try simp only [Act.put, List.setIfInBounds_toArray, List.set_cons_zero, List.set_cons_succ])
        refine h_take (i := 2) (d := 70) (v := .agg (n8 s.rg).toArray) rfl rfl (by kernel_rfl) (by kernel_rfl) (by kernel_rfl) (fun _ _ _ h => h) (y_row rfl rfl agg11 .z (by rw [n8_length]; exact HL.out) rfl) HQ ?_
        (try simp only [Act.put, List.setIfInBounds_toArray, List.set_cons_zero, List.set_cons_succ])
        refine wpAnyH_all (rs := [1]) (by kernel_rfl) (by simp) ?_
        intro i hi
        obtain rfl := List.mem_singleton.1 hi
        refine wpOp_of rfl rfl ?_
        refine w_call (f := 13) (args := #[.pointer (some ⟨p, 0, none⟩)]) (fun w => rfl) (by go_simp) ?_
        refine (regs_at o3 HM).mono ?_
        rw [HG.out]
        rintro e w2 ⟨rfl, HM2⟩
        refine ⟨_, rfl, HM2.out.forget.forget, ?_⟩
        change wpAnyH _ _ _ _ _ _ _ (Act.put _ (some 69) _) _
        (try simp only [Act.put, List.setIfInBounds_toArray, List.set_cons_zero, List.set_cons_succ])
        have hq11 := eq11_n8 s.rg HL.out
        refine h_take (i := 3) (d := 71) (v := .bool true) rfl rfl (by kernel_rfl) (by kernel_rfl) (by kernel_rfl) (fun _ _ _ h => h) (y_pure rfl (fun w => by go_simp)) HM2.out.forget.forget ?_
        (try simp only [Act.put, List.setIfInBounds_toArray, List.set_cons_zero, List.set_cons_succ])
        refine h_take (i := 4) (d := 72) (v := .bool true) rfl rfl (by kernel_rfl) (by kernel_rfl) (by kernel_rfl) (fun _ _ _ h => h) (y_pure rfl (fun w => by go_simp)) HM2.out.forget.forget ?_
        (try simp only [Act.put, List.setIfInBounds_toArray, List.set_cons_zero, List.set_cons_succ])
        refine h_take (i := 5) (d := 73) (v := .pointer (some ⟨q, 0, none⟩)) rfl rfl (by kernel_rfl) (by kernel_rfl) (by kernel_rfl) (fun _ _ _ h => h) (y_pure rfl (fun w => by go_simp)) HM2.out.forget.forget ?_
        (try simp only [Act.put, List.setIfInBounds_toArray, List.set_cons_zero, List.set_cons_succ])
        refine h_take (i := 7) (d := 75) (v := .slice a k cap) rfl rfl (by kernel_rfl) (by kernel_rfl) (by kernel_rfl) (fun _ _ _ h => h) (y_pure rfl (fun w => by go_simp)) HM2.out.forget.forget ?_
        (try simp only [Act.put, List.setIfInBounds_toArray, List.set_cons_zero, List.set_cons_succ])
        have HM3 : Hid (Own w w2 [Po q s, Po p s3, (gb, 30, n8 s.rg)]) := HM2.out.perm (List.Perm.swap _ _ _)
        refine wpAnyH_all (rs := [6]) (by kernel_rfl) (by simp) ?_
        intro i hi
        obtain rfl := List.mem_singleton.1 hi
        refine wpOp_of rfl rfl ?_
        refine w_call (f := 19) (args := #[.pointer (some ⟨q, 0, none⟩)]) (fun w => rfl) (by go_simp) ?_
        refine (read_at o1 HM3).mono ?_
        rintro e w3 ⟨rfl, HM4⟩
        refine ⟨_, rfl, HM4.out.forget.forget, ?_⟩
        change wpAnyH _ _ _ _ _ _ _ (Act.put _ (some 74) _) _
        (try simp only [Act.put, List.setIfInBounds_toArray, List.set_cons_zero, List.set_cons_succ])
        refine wpAnyH_all (rs := [8]) (by kernel_rfl) (by simp) ?_
        intro i hi
        obtain rfl := List.mem_singleton.1 hi
        refine wpOp_of rfl rfl ?_
        refine w_call (f := 26) (args := #[.slice a k cap]) (fun w => rfl) (by go_simp) ?_
        refine (read_any a k cap (by omega) ac HA.out s.bu HB HM4).mono ?_
        rintro e w4 ⟨rfl, HM5⟩
        refine ⟨_, rfl, HM5.out.forget.forget, ?_⟩
        change wpAnyH _ _ _ _ _ _ _ (Act.put _ (some 76) _) _
        (try simp only [Act.put, List.setIfInBounds_toArray, List.set_cons_zero, List.set_cons_succ])
        refine h_take (i := 9) (d := 77) (v := .bool true) rfl rfl (by kernel_rfl) (by kernel_rfl) (by kernel_rfl) (fun _ _ _ h => h) (y_pure rfl (fun w => by go_simp)) HM5.out.forget.forget ?_
        (try simp only [Act.put, List.setIfInBounds_toArray, List.set_cons_zero, List.set_cons_succ])
        refine h_take (i := 10) (d := 78) (v := .bool true) rfl rfl (by kernel_rfl) (by kernel_rfl) (by kernel_rfl) (fun _ _ _ h => h) (y_pure rfl (fun w => by go_simp)) HM5.out.forget.forget ?_
        (try simp only [Act.put, List.setIfInBounds_toArray, List.set_cons_zero, List.set_cons_succ])
        refine h_take (i := 11) (d := 4) (v := .bool true) rfl rfl (by kernel_rfl) (by kernel_rfl) (by kernel_rfl) (fun _ _ _ h => h) (y_pure rfl (fun w => by go_simp)) HM5.out.forget.forget ?_
        (try simp only [Act.put, List.setIfInBounds_toArray, List.set_cons_zero, List.set_cons_succ])
        refine wpAnyH_done (by kernel_rfl) ?_ _
        go_wp2_with fail
        go_ret
        exact ⟨rfl, Own.fin HM5⟩

theorem keeps_any (a : Option Addr) (n cap : Nat) (ac : Nat → Int × Int × Nat) (x : Nat) (hx : x < 256) (w : World) (ha : ActsIn w w.heap.size a n ac) :
    Calls Try.prog 7 #[.slice a n cap, .int .u8 (x : Int)] w fun e w' => e = .returned (.bool true) ∧ Below w.heap.size w w' := by
  by_cases hh : (200 : Int) < (n : Int)
  · exact keeps_out a n cap x hh w
  · exact keeps_in a n cap (by omega) ac x hx w ha

end Go.Proofs.Ytbjghlcdbmooaaa
