/-
  The document's replace, Has, decimal, signed, hex, each by one contract.
-/
import Derived.Test.YtaiceidmcelapaaDoorNamText
import Derived.Test.YtaiceidmcelapaaDoorNamRepl
import Derived.Test.YtaiceidmcelapaaDoorStrs
set_option linter.unusedSimpArgs false
set_option linter.unusedVariables false
namespace Go.Proofs.YtaiceidmcelapaaDoor
open Go.RowKit

theorem tStr : Tryd.prog.underlying 9 = some .string := Tryd.underlying9
set_option maxRecDepth 100000 in
set_option maxHeartbeats 3200000 in
theorem repl_at (s old by' : Tx) (hs : s.length ≤ 400) (ho : old ≠ []) (hol : old.length ≤ 8) (hb : by'.length ≤ 12) (w : World) : Calls Tryd.prog 29 #[.string ⟨s.toArray⟩, .string ⟨old.toArray⟩, .string ⟨by'.toArray⟩] w fun e w' => e = .returned (.string ⟨(rReplace s old by').toArray⟩) ∧ Below w.heap.size w w' := by
  have HM := Lib.hid (Own.start w)
  have HO := Lib.hid ho
  have ol0 : 0 < old.length := List.length_pos_iff.2 ho
  clear ho
  go_enter Tryd.func29, Tryd.ntmps29
  go_wp2_with fail
  go_loopw [7, 8] (fun o i wr => ∃ (k : Nat) (p : Tx), k ≤ s.length ∧ i = .int .i64 k ∧ o = .string ⟨p.toArray⟩ ∧ p.length ≤ 12 * k ∧ Hid (p ++ rReplace (s.drop k) old by' = rReplace s old by') ∧ Hid (Own w wr [])) (fun _ i _ => s.length - (intOf i).toNat)
  case atStart => exact ⟨0, [], by omega, rfl, rfl, by simp, rfl, HM⟩
  case round =>
    clear HM
    obtain ⟨k, p, hk, rfl, rfl, lp, HP, HM⟩ := hrel
    by_cases hlt : k < s.length
    · have hlt' : (k : Int) < (s.length : Int) := by omega
      obtain ⟨c, hc⟩ : ∃ c, s.getD k 0 = c := ⟨_, rfl⟩
      have HD : Hid (s.drop k = c :: s.drop (k + 1)) := by show _ = _; rw [← hc]; exact drop_at s k hlt
      have HT : Hid ((s.drop k).take (k + 1 - k) = [c]) := by show _ = _; rw [← hc]; exact take_one s k hlt
      obtain ⟨r, hr⟩ : ∃ r, (s.drop k).take (k + old.length - k) = r := ⟨_, rfl⟩
      have HR := Lib.hid hr
      have hpre : r = old ↔ old.isPrefixOf (s.drop k) = true := by rw [← hr, show k + old.length - k = old.length by omega]; exact prefix_take old _
      by_cases hroom : k + old.length ≤ s.length
      · have hroom' : (k : Int) + (old.length : Int) ≤ (s.length : Int) := by omega
        by_cases he : r = old
        · have hq : (r == old) = true := by rw [beq_iff_eq]; exact he
          have HH : Hid (rReplace (s.drop k) old by' = by' ++ rReplace (s.drop (k + old.length)) old by') := by
            show _ = _
            rw [repl_hit _ old by' HO.out (hpre.1 he) (by rw [HD.out]; simp), List.drop_drop]
          clear hpre hr he
          go_wp2_with (first
            | (refine own_piece (s := s) (i := k) (j := k + old.length) (r := r) tStr rfl rfl rfl rfl rfl (by omega) (by omega) (by omega) HR.out rfl ?_)
            | ((with_reducible apply own_cat); exact rfl; exact rfl; exact rfl; (first | assumption | decide | ((try simp only [List.length_append, List.length_cons, List.length_nil]); omega)); exact rfl; all_goals skip))
          go_roundw
          case rel =>
            refine ⟨k + old.length, p ++ by', hroom, ?_, rfl, ?_, ?_, HM⟩
            · have e : ((k + old.length : Nat) : Int) = (k : Int) + (old.length : Int) := by omega
              rw [e]
            · simp only [List.length_append]; omega
            · show _ = _
              rw [← HP.out, HH.out, List.append_assoc]
          case measure => simp [intOf]; omega
        · have hq : (r == old) = false := by rw [beq_eq_false_iff_ne]; exact he
          have HH : Hid (rReplace (s.drop k) old by' = c :: rReplace (s.drop (k + 1)) old by') := by
            show _ = _
            rw [HD.out]
            exact repl_miss c _ old by' (by rw [← HD.out]; cases hp : old.isPrefixOf (s.drop k) with | false => rfl | true => exact absurd (hpre.2 hp) he)
          clear hpre hr he
          go_wp2_with (first
            | (refine own_piece (s := s) (i := k) (j := k + old.length) (r := r) tStr rfl rfl rfl rfl rfl (by omega) (by omega) (by omega) HR.out rfl ?_)
            | (refine own_piece (s := s) (i := k) (j := k + 1) (r := [c]) tStr rfl rfl rfl rfl rfl (by omega) (by omega) (by omega) HT.out rfl ?_)
            | ((with_reducible apply own_cat); exact rfl; exact rfl; exact rfl; (first | assumption | decide | ((try simp only [List.length_append, List.length_cons, List.length_nil]); omega)); exact rfl; all_goals skip))
          go_roundw
          case rel =>
            refine ⟨k + 1, p ++ [c], by omega, by go_num, rfl, ?_, ?_, HM⟩
            · simp only [List.length_append, List.length_cons, List.length_nil]; omega
            · show _ = _
              rw [← HP.out, HH.out, List.append_assoc]; rfl
          case measure => simp [intOf]; omega
      · have hroom' : (s.length : Int) < (k : Int) + (old.length : Int) := by omega
        have HH : Hid (rReplace (s.drop k) old by' = c :: rReplace (s.drop (k + 1)) old by') := by
          show _ = _
          rw [HD.out]
          exact repl_miss c _ old by' (by rw [← HD.out]; exact prefix_short old _ (by simp only [List.length_drop]; omega))
        clear hpre hr
        go_wp2_with (first
          | (refine own_piece (s := s) (i := k) (j := k + 1) (r := [c]) tStr rfl rfl rfl rfl rfl (by omega) (by omega) (by omega) HT.out rfl ?_)
          | ((with_reducible apply own_cat); exact rfl; exact rfl; exact rfl; (first | assumption | decide | ((try simp only [List.length_append, List.length_cons, List.length_nil]); omega)); exact rfl; all_goals skip))
        go_roundw
        case rel =>
          refine ⟨k + 1, p ++ [c], by omega, by go_num, rfl, ?_, ?_, HM⟩
          · simp only [List.length_append, List.length_cons, List.length_nil]; omega
          · show _ = _
            rw [← HP.out, HH.out, List.append_assoc]; rfl
        case measure => simp [intOf]; omega
    · obtain rfl : k = s.length := by omega
      have HE : Hid (p = rReplace s old by') := by
        show _ = _
        rw [← HP.out, List.drop_length, repl_nil, List.append_nil]
      go_wp2_with fail
      go_ret
      exact ⟨by rw [← HE.out]; rfl, Own.fin HM⟩
set_option maxRecDepth 100000 in
set_option maxHeartbeats 1600000 in
theorem has_at (s part : Tx) (hs : s.length ≤ 400) (ho : part ≠ []) (hol : part.length ≤ 8) (w : World) : Calls Tryd.prog 28 #[.string ⟨s.toArray⟩, .string ⟨part.toArray⟩] w fun e w' => e = .returned (.bool (rHas s part)) ∧ Below w.heap.size w w' := by
  have HC : Hid (∀ w, Calls Tryd.prog 29 #[.string ⟨s.toArray⟩, .string ⟨part.toArray⟩, .string ⟨#[]⟩] w fun e w' => e = .returned (.string ⟨(rReplace s part []).toArray⟩) ∧ Below w.heap.size w w') := repl_at s part [] hs ho hol (by decide)
  obtain ⟨r, hr⟩ : ∃ r, rReplace s part [] = r := ⟨_, rfl⟩
  rw [hr] at HC
  have HE : Hid (rHas s part = !(r == s)) := by show _ = _; rw [rHas, hr]
  rw [HE.out]
  have HM := Lib.hid (Own.start w)
  clear hr ho HE
  go_enter Tryd.func28, Tryd.ntmps28
  go_wp2_with (first
    | (go_at_call 29; (with_reducible refine (HC.out _).mono ?_); rintro e w' ⟨rfl, hb⟩; have HM' := Lib.hid (HM.out.call hb); clear HM hb; have HM := HM'; clear HM'))
  go_ret
  exact ⟨rfl, Own.fin HM⟩
theorem dig_piece (k : Nat) (hk : k < 10) : (([48, 49, 50, 51, 52, 53, 54, 55, 56, 57] : Tx).drop k).take (k + 1 - k) = [UInt8.ofNat (48 + k)] := by
  match k, hk with
  | 0, _ | 1, _ | 2, _ | 3, _ | 4, _ | 5, _ | 6, _ | 7, _ | 8, _ | 9, _ => rfl
set_option maxRecDepth 100000 in
set_option maxHeartbeats 1600000 in
theorem dec_one (n : Nat) (hn : n < 10) (w : World) : Calls Tryd.prog 48 #[.int .i64 (n : Int)] w fun e w' => e = .returned (.string ⟨(dec3 n).toArray⟩) ∧ Below w.heap.size w w' := by
  have HE : Hid (dec3 n = [UInt8.ofNat (48 + n)]) := by show _ = _; rw [dec3, if_pos hn]
  have HP := Lib.hid (dig_piece n hn)
  rw [HE.out]
  obtain ⟨c, hc⟩ : ∃ c, UInt8.ofNat (48 + n) = c := ⟨_, rfl⟩
  rw [hc] at HP ⊢
  have n1 : (n : Int) < 10 := by omega
  have HM := Lib.hid (Own.start w)
  clear HE hc
  go_enter Tryd.func48, Tryd.ntmps48
  go_wp2_with (first
    | (refine own_piece (s := [48, 49, 50, 51, 52, 53, 54, 55, 56, 57]) (i := n) (j := n + 1) tStr rfl rfl rfl rfl rfl (by omega) (by omega) (by simp only [List.length_cons, List.length_nil]; omega) HP.out rfl ?_))
  go_ret
  exact ⟨rfl, Own.fin HM⟩
set_option maxRecDepth 100000 in
set_option maxHeartbeats 1600000 in
theorem dec_more (n q r : Nat) (d : Tx) (hn : 10 ≤ n) (h1 : n < 1000) (hq : q = n / 10) (hr : r = n % 10) (hd : d.length ≤ 4)
    (HQ : ∀ w, Calls Tryd.prog 48 #[.int .i64 (q : Int)] w fun e w' => e = .returned (.string ⟨d.toArray⟩) ∧ Below w.heap.size w w') (hx : d ++ dec3 r = dec3 n) (w : World) :
    Calls Tryd.prog 48 #[.int .i64 (n : Int)] w fun e w' => e = .returned (.string ⟨(dec3 n).toArray⟩) ∧ Below w.heap.size w w' := by
  have H1 := Lib.hid HQ
  have H2 := Lib.hid (dec_one r (by omega))
  obtain ⟨x, hxx⟩ : ∃ x, dec3 r = x := ⟨_, rfl⟩
  have lx : x.length ≤ 3 := by rw [← hxx]; exact len_dec3 r
  rw [hxx] at H2
  rw [← hx, hxx]
  have n1 : ¬ (n : Int) < 10 := by omega
  have n2 : (n : Int) < 1000 := by omega
  have e1 : IntKind.i64.wrap ((n : Int).tdiv 10) = (q : Int) := by rw [Int.tdiv_eq_ediv_of_nonneg (by omega), IntKind.wrap_i64]; omega
  have e2 : (n : Int).tmod 10 = (r : Int) := by rw [Int.tmod_eq_emod_of_nonneg (by omega)]; omega
  have e3 : (n : Int) / 10 = (q : Int) := by omega
  have e4 : (n : Int) % 10 = (r : Int) := by omega
  have HM := Lib.hid (Own.start w)
  clear HQ hx hxx hn h1 hq hr
  go_enter Tryd.func48, Tryd.ntmps48
  go_wp2_with (first
    | ((with_reducible apply own_cat); exact rfl; exact rfl; exact rfl; (first | assumption | decide | ((try simp only [List.length_append, List.length_cons, List.length_nil]); omega)); exact rfl; all_goals skip)
    | (go_at_call 48; (first | (with_reducible refine (H1.out _).mono ?_) | (with_reducible refine (H2.out _).mono ?_)); rintro e w' ⟨rfl, hb⟩; have HM' := Lib.hid (HM.out.call hb); clear HM hb; have HM := HM'; clear HM'))
  go_ret
  exact ⟨rfl, Own.fin HM⟩
theorem dec_at (n : Nat) (hn : n < 1000) (w : World) : Calls Tryd.prog 48 #[.int .i64 (n : Int)] w fun e w' => e = .returned (.string ⟨(dec3 n).toArray⟩) ∧ Below w.heap.size w w' := by
  by_cases h1 : n < 10
  · exact dec_one n h1 w
  · by_cases h2 : n < 100
    · refine dec_more n (n / 10) (n % 10) (dec3 (n / 10)) (by omega) hn rfl rfl (by have := len_dec3 (n / 10); omega) (dec_one (n / 10) (by omega)) ?_ w
      rw [dec3, if_pos (by omega), dec3, if_pos (by omega), dec3, if_neg h1, if_pos h2]; rfl
    · refine dec_more n (n / 10) (n % 10) (dec3 (n / 10)) (by omega) hn rfl rfl (by have := len_dec3 (n / 10); omega) ?_ ?_ w
      · intro w
        refine dec_more (n / 10) (n / 10 / 10) (n / 10 % 10) (dec3 (n / 10 / 10)) (by omega) (by omega) rfl rfl (by have := len_dec3 (n / 10 / 10); omega) (dec_one (n / 10 / 10) (by omega)) ?_ w
        rw [dec3, if_pos (by omega), dec3, if_pos (by omega), dec3, if_neg (by omega), if_pos (by omega)]; rfl
      · rw [dec3, if_neg (by omega), if_pos (by omega), dec3, if_pos (by omega), dec3, if_neg h1, if_neg h2, Nat.div_div_eq_div_mul]; rfl
theorem hex_piece (k : Nat) (hk : k < 16) : (([48, 49, 50, 51, 52, 53, 54, 55, 56, 57, 65, 66, 67, 68, 69, 70] : Tx).drop k).take (k + 1 - k) = [hexd k] := by
  obtain rfl | rfl | rfl | rfl | rfl | rfl | rfl | rfl | rfl | rfl | rfl | rfl | rfl | rfl | rfl | rfl : k = 0 ∨ k = 1 ∨ k = 2 ∨ k = 3 ∨ k = 4 ∨ k = 5 ∨ k = 6 ∨ k = 7 ∨ k = 8 ∨ k = 9 ∨ k = 10 ∨ k = 11 ∨ k = 12 ∨ k = 13 ∨ k = 14 ∨ k = 15 := by omega
  all_goals rfl
set_option maxRecDepth 100000 in
set_option maxHeartbeats 1600000 in
theorem rsigned_at (a : Nat) (ha : a < 256) (w : World) : Calls Tryd.prog 30 #[.int .u8 (a : Int)] w fun e w' => e = .returned (.string ⟨(sgn a).toArray⟩) ∧ Below w.heap.size w w' := by
  by_cases h : a < 128
  · have H1 := Lib.hid (dec_at a (by omega))
    have l1 := len_dec3 a
    have HE : Hid (sgn a = 43 :: dec3 a) := by show _ = _; rw [sgn, if_pos h]
    rw [HE.out]
    have a1 : (a : Int) < 128 := by omega
    have HM := Lib.hid (Own.start w)
    clear HE
    go_enter Tryd.func30, Tryd.ntmps30
    go_wp2_with (first
      | ((with_reducible apply own_cat); exact rfl; exact rfl; exact rfl; (first | assumption | decide | ((try simp only [List.length_append, List.length_cons, List.length_nil]); omega)); exact rfl; all_goals skip)
      | (go_at_call 48; (with_reducible refine (H1.out _).mono ?_); rintro e w' ⟨rfl, hb⟩; have HM' := Lib.hid (HM.out.call hb); clear HM hb; have HM := HM'; clear HM'))
    go_ret
    exact ⟨rfl, Own.fin HM⟩
  · have H1 : Hid (∀ w, Calls Tryd.prog 48 #[.int .i64 (256 - (a : Int))] w fun e w' => e = .returned (.string ⟨(dec3 (256 - a)).toArray⟩) ∧ Below w.heap.size w w') := by
      have := dec_at (256 - a) (by omega)
      rwa [show ((256 - a : Nat) : Int) = 256 - (a : Int) by omega] at this
    have l1 := len_dec3 (256 - a)
    have HE : Hid (sgn a = 45 :: dec3 (256 - a)) := by show _ = _; rw [sgn, if_neg h]
    rw [HE.out]
    have a1 : (128 : Int) ≤ (a : Int) := by omega
    have a2 : (a : Int) < 256 := by omega
    have HM := Lib.hid (Own.start w)
    clear HE
    go_enter Tryd.func30, Tryd.ntmps30
    go_wp2_with (first
      | ((with_reducible apply own_cat); exact rfl; exact rfl; exact rfl; (first | assumption | decide | ((try simp only [List.length_append, List.length_cons, List.length_nil]); omega)); exact rfl; all_goals skip)
      | (go_at_call 48; (with_reducible refine (H1.out _).mono ?_); rintro e w' ⟨rfl, hb⟩; have HM' := Lib.hid (HM.out.call hb); clear HM hb; have HM := HM'; clear HM'))
    go_ret
    exact ⟨rfl, Own.fin HM⟩
set_option maxRecDepth 100000 in
set_option maxHeartbeats 1600000 in
theorem rhex_at (v : Nat) (hv : v < 256) (w : World) : Calls Tryd.prog 31 #[.int .u8 (v : Int)] w fun e w' => e = .returned (.string ⟨(hex2 v).toArray⟩) ∧ Below w.heap.size w w' := by
  obtain ⟨a, ha⟩ : ∃ a, a = v / 16 := ⟨_, rfl⟩
  obtain ⟨b, hb⟩ : ∃ b, b = v % 16 := ⟨_, rfl⟩
  have HA : Hid (hex2 v = [hexd a] ++ [hexd b]) := by show _ = _; rw [hex2, ← ha, ← hb]; rfl
  rw [HA.out]
  have a8 : a < 16 := by omega
  have b8 : b < 16 := by omega
  have H1 := Lib.hid (hex_piece a a8)
  have H2 := Lib.hid (hex_piece b b8)
  have e1 : IntKind.u8.wrap ((v : Int).tdiv 16) = (a : Int) := by rw [Int.tdiv_eq_ediv_of_nonneg (by omega), IntKind.wrap_u8]; omega
  have e2 : (v : Int).tmod 16 = (b : Int) := by rw [Int.tmod_eq_emod_of_nonneg (by omega)]; omega
  have e3 : (v : Int) / 16 = (a : Int) := by omega
  have e4 : (v : Int) % 16 = (b : Int) := by omega
  have v8 : (v : Int) < 256 := by omega
  have a9 : (a : Int) < 16 := by omega
  have b9 : (b : Int) < 16 := by omega
  have HM := Lib.hid (Own.start w)
  clear HA ha hb hv
  go_enter Tryd.func31, Tryd.ntmps31
  go_wp2_with fail
  (refine own_region HM (by kernel_rfl) (by kernel_rfl) ?_; (try simp only [Act.put, List.setIfInBounds_toArray, List.set_cons_zero, List.set_cons_succ]); repeat ((fail_if_success (with_reducible refine wpQuiet_nil ?_)); first | go_big_quiet_skip | (go_big_quiet_want; first | ((with_reducible apply quiet_piece (i := a) (j := a + 1) tStr); exact rfl; exact rfl; exact rfl; (focus omega); (focus omega); (focus omega); (focus (simp only [List.length_cons, List.length_nil]; omega)); (exact H1.out); go_big_quiet_op; go_big_quiet_on) | ((with_reducible apply quiet_piece (i := b) (j := b + 1) tStr); exact rfl; exact rfl; exact rfl; (focus omega); (focus omega); (focus omega); (focus (simp only [List.length_cons, List.length_nil]; omega)); (exact H2.out); go_big_quiet_op; go_big_quiet_on) | ((with_reducible apply quiet_cat); exact rfl; exact rfl; (first | assumption | decide | ((try simp only [List.length_append, List.length_cons, List.length_nil]); omega)); go_big_quiet_op; go_big_quiet_on) | (go_big_quiet_op; go_big_quiet_on) | (go_big_quiet_op; refine ⟨_, fun _ _ => rfl, ?_⟩; go_big_quiet_on))))
  refine wpQuiet_nil ?_
  intro w' HM'
  clear HM; have HM := HM'; clear HM'
  go_wp2_with fail
  go_ret
  exact ⟨rfl, Own.fin HM⟩
end Go.Proofs.YtaiceidmcelapaaDoor
