/-
  The document's split, by one contract.
-/
import Derived.Test.YtaiceidmcelapaaDoorNamRef1
set_option linter.unusedSimpArgs false
set_option linter.unusedVariables false
namespace Go.Proofs.YtaiceidmcelapaaDoor
open Go.RowKit

def strs (D : List Tx) : List Value := D.map fun x => .string ⟨x.toArray⟩
@[simp] theorem strs_length (D : List Tx) : (strs D).length = D.length := by simp [strs]
theorem strs_get (D : List Tx) (k : Nat) (hk : k < D.length) : (strs D)[k]? = some (.string ⟨(sg D k).toArray⟩) := by
  simp [strs, sg, List.getD_eq_getElem?_getD, hk]
theorem str_info : (Tryd.prog.info? 9).map (fun i => (i.zero, i.size, i.bytes)) = some (some (.string ⟨#[]⟩), 1, 16) := by kernel_rfl
theorem str_parts : ∃ i : TypeInfo, Tryd.prog.info? 9 = some i ∧ i.zero = some (.string ⟨#[]⟩) ∧ i.size = 1 ∧ i.bytes = 16 := by
  have h := str_info
  cases hq : Tryd.prog.info? 9 with
  | none => rw [hq] at h; simp at h
  | some i => rw [hq] at h; simp at h; exact ⟨i, rfl, h.1, h.2.1, h.2.2⟩
theorem madeS0 (w : World) : (Instr.buildSlice 47 0 #[]).run Tryd.prog w = .ok (.slice (some ⟨w.heap.size, 0, none⟩) 0 0) (w.alloc (.cells #[] 9)) := by kernel_rfl
theorem madeS1 (b : ByteArray) (w : World) : (Instr.buildSlice 47 1 #[(0, .string b)]).run Tryd.prog w = .ok (.slice (some ⟨w.heap.size, 0, none⟩) 1 1) (w.alloc (.cells #[.string b] 9)) := by kernel_rfl
theorem split_hit (mark : UInt8) (p s : Tx) : rSplitOn mark p (mark :: s) = p :: rSplitOn mark [] s := by rw [rSplitOn, if_pos rfl]
theorem split_miss (mark c : UInt8) (p s : Tx) (h : c ≠ mark) : rSplitOn mark p (c :: s) = rSplitOn mark (p ++ [c]) s := by rw [rSplitOn, if_neg h]
/-- a slice of texts, just handed back -/
def TextsIn (w : World) (v : Value) (L : List Tx) : Prop := ∃ g cap, v = .slice (some ⟨g, 0, none⟩) L.length cap ∧ ∀ k < L.length, w.cell? ⟨g, k, none⟩ = some (.string ⟨(sg L k).toArray⟩)
theorem TextsIn.of {W0 w : World} {v : Value} {R : List (Nat × TypeId × List Value)} {L : List Tx} (hL : L ≠ []) (HR : RowIs 9 R v (strs L)) (HM : Own W0 w R) : TextsIn w v L := by
  rcases HR with ⟨-, -, hx⟩ | ⟨g, cap, cur, rfl, rfl, h1, h2, h3, h4⟩
  · exact absurd (by simpa [strs] using hx) hL
  · refine ⟨g, cap, by rw [strs_length], fun k hk => ?_⟩
    have hw := (HM.whole (g, 9, cur) (by simp)).2
    have e := strs_get L k hk
    rw [← h4, List.getElem?_take] at e
    rw [hw.at_ k]
    split at e
    · exact e
    · cases e
theorem TextsIn.under {w w' : World} {v : Value} {L : List Tx} (h : TextsIn w v L) (hb : Below w.heap.size w w') : TextsIn w' v L := by
  obtain ⟨g, cap, hv, hc⟩ := h
  exact ⟨g, cap, hv, fun k hk => (hb.cell (p := ⟨g, k, none⟩) (block_lt_of_cell (hc k hk))).trans (hc k hk)⟩
set_option maxRecDepth 100000 in
set_option maxHeartbeats 3200000 in
theorem rsplit_at (s : Tx) (m : UInt8) (M : Int) (hM : (m.toNat : Int) = M) (hs : s.length ≤ 2000) (w : World) : Calls Tryd.prog 45 #[.string ⟨s.toArray⟩, .int .u8 M] w fun e w' => ∃ v, e = .returned v ∧ TextsIn w' v (rSplit s m) ∧ Below w.heap.size w w' := by
  have hM : Hid ((m.toNat : Int) = M) := hM
  obtain ⟨i0, hi, hz0, hz1, hz2⟩ := str_parts
  have HI := Lib.hid hi
  have HZ0 := Lib.hid hz0
  have HZ1 := Lib.hid hz1
  have HZ2 := Lib.hid hz2
  clear hi hz0 hz1 hz2
  have HM := Lib.hid (Own.start w)
  have tg1 : Hid True := trivial
  go_enter Tryd.func45, Tryd.ntmps45
  go_wp2_with (first
    | ((with_reducible apply own_made (cs := []) (e := 9) (n := 0) HM); exact rfl; exact madeS0; (focus (go_simp; done)); exact rfl; clear tg1; intro w' g1 HM'; clear HM; have HM := HM'; clear HM'; all_goals skip))
  have HR : Hid (RowIs 9 [(g1, 9, [])] (.slice (some ⟨g1, 0, none⟩) 0 0) (strs [])) := RowIs.made
  go_loopw [5, 6, 7] (fun o pt i wr => ∃ (k : Nat) (p : Tx) (D : List Tx) (R : List (Nat × TypeId × List Value)) (v : Value), k ≤ s.length ∧ p.length ≤ k ∧ i = .int .i64 k ∧ pt = .string ⟨p.toArray⟩ ∧ o = v ∧ Hid (D.length ≤ k) ∧ Hid (D ++ rSplitOn m p (s.drop k) = rSplit s m) ∧ Hid (RowIs 9 R v (strs D)) ∧ Hid (Own w wr R)) (fun _ _ i _ => s.length - (intOf i).toNat)
  case atStart => exact ⟨0, [], [], _, _, by omega, by simp, rfl, rfl, rfl, by show _ ≤ _; simp, rfl, HR, HM⟩
  case round =>
    clear HM HR
    obtain ⟨k, p, D, R, v, hk, lp, rfl, rfl, rfl, HDL, HP, HR, HM⟩ := hrel
    have tg1 : Hid True := trivial
    by_cases hlt : k < s.length
    · have hlt' : (k : Int) < (s.length : Int) := by omega
      obtain ⟨c, hc⟩ : ∃ c, s.getD k 0 = c := ⟨_, rfl⟩
      have HC := Lib.hid hc
      have HD : Hid (s.drop k = c :: s.drop (k + 1)) := by show _ = _; rw [← hc]; exact drop_at s k hlt
      have HT : Hid ((s.drop k).take (k + 1 - k) = [c]) := by show _ = _; rw [← hc]; exact take_one s k hlt
      clear hc
      by_cases he : c = m
      · have HE := Lib.hid he
        have hq : ((c.toNat : Int) == M) = true := by rw [beq_iff_eq, he, hM.out]
        have HH : Hid (D ++ [p] ++ rSplitOn m [] (s.drop (k + 1)) = rSplit s m) := by
          show _ = _
          rw [← HP.out, HD.out, HE.out, split_hit, List.append_assoc]; rfl
        clear he
        go_wp2_with (first
          | (refine own_char (s := s) (k := k) tStr rfl rfl rfl hlt rfl ?_; rw [HC.out])
          | ((with_reducible apply own_made (cs := [.string ⟨p.toArray⟩]) (e := 9) (n := 1) HM); exact rfl; exact madeS1 _; (focus (go_simp; done)); exact rfl; clear tg1; intro w' g1 HM'; clear HM; have HM := HM'; clear HM'; all_goals skip)
          | ((refine own_app Tryd.underlying47 HI.out HZ0.out HZ1.out HZ2.out rfl (by decide) HM HR (List.sublist_cons_self _ _) rfl rfl rfl (Rd.ofWhole (HM.out.at_ .z) rfl) (by intro u hu; obtain rfl := List.mem_singleton.1 hu; rfl) (by have h := HDL.out; rw [strs_length]; simp only [List.length_cons, List.length_nil]; omega) rfl ?_); intro v' w' R' HR' HM'; clear HM HR; have HM := HM'; have HR := HR'; clear HM' HR'))
        go_roundw
        case rel =>
          refine ⟨k + 1, [], D ++ [p], _, _, by omega, by simp, by go_num, rfl, rfl, ?_, HH, ?_, HM⟩
          · have h := HDL.out
            show _ ≤ _
            simp only [List.length_append, List.length_cons, List.length_nil]; omega
          · show RowIs _ _ _ _
            have h := HR.out
            simpa [strs] using h
        case measure => simp [intOf]; omega
      · have hq : ((c.toNat : Int) == M) = false := by
          rw [beq_eq_false_iff_ne, ← hM.out]
          intro h
          exact he (UInt8.toNat_inj.1 (by omega))
        have HH : Hid (D ++ rSplitOn m (p ++ [c]) (s.drop (k + 1)) = rSplit s m) := by
          show _ = _
          rw [← HP.out, HD.out, split_miss m c _ _ he]
        clear he
        go_wp2_with (first
          | (refine own_char (s := s) (k := k) tStr rfl rfl rfl hlt rfl ?_; rw [HC.out])
          | (refine own_piece (s := s) (i := k) (j := k + 1) (r := [c]) tStr rfl rfl rfl rfl rfl (by omega) (by omega) (by omega) HT.out rfl ?_)
          | ((with_reducible apply own_cat); exact rfl; exact rfl; exact rfl; (first | assumption | decide | ((try simp only [List.length_append, List.length_cons, List.length_nil]); omega)); exact rfl; all_goals skip))
        go_roundw
        case rel =>
          refine ⟨k + 1, p ++ [c], D, _, _, by omega, ?_, by go_num, rfl, rfl, ?_, HH, HR, HM⟩
          · simp only [List.length_append, List.length_cons, List.length_nil]; omega
          · have h := HDL.out
            show _ ≤ _
            omega
        case measure => simp [intOf]; omega
    · obtain rfl : k = s.length := by omega
      have HH : Hid (D ++ [p] = rSplit s m) := by
        show _ = _
        rw [← HP.out, List.drop_length]; rfl
      go_wp2_with (first
        | ((with_reducible apply own_made (cs := [.string ⟨p.toArray⟩]) (e := 9) (n := 1) HM); exact rfl; exact madeS1 _; (focus (go_simp; done)); exact rfl; clear tg1; intro w' g1 HM'; clear HM; have HM := HM'; clear HM'; all_goals skip)
        | ((refine own_app Tryd.underlying47 HI.out HZ0.out HZ1.out HZ2.out rfl (by decide) HM HR (List.sublist_cons_self _ _) rfl rfl rfl (Rd.ofWhole (HM.out.at_ .z) rfl) (by intro u hu; obtain rfl := List.mem_singleton.1 hu; rfl) (by have h := HDL.out; rw [strs_length]; simp only [List.length_cons, List.length_nil]; omega) rfl ?_); intro v' w' R' HR' HM'; clear HM HR; have HM := HM'; have HR := HR'; clear HM' HR'))
      go_ret
      refine ⟨_, rfl, ?_, Own.fin HM⟩
      rw [← HH.out]
      refine TextsIn.of (by simp) ?_ HM.out
      have h := HR.out
      simpa [strs] using h
end Go.Proofs.YtaiceidmcelapaaDoor
