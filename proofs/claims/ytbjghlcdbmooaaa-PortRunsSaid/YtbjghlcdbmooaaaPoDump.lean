/-
  Dump of the program's port: all of it, as bytes.
-/
import Derived.Test.YtbjghlcdbmooaaaPoDump0
import Derived.Deep.Cut
import Derived.Deep.CutRange
namespace Go.Proofs.Ytbjghlcdbmooaaa
open Go.RowKit

set_option maxRecDepth 100000 in
set_option maxHeartbeats 1600000 in
theorem dump_at {W0 w : World} {p : Nat} {s : Pt} {l : Blks} (hs : s.Ok) (h : Hid (Own W0 w (Po p s :: l))) :
    Calls Try.prog 10 #[.pointer (some ⟨p, 0, none⟩)] w fun e w' => ∃ g cap ex, e = .returned (.slice (some ⟨g, 0, none⟩) 16433 cap) ∧ 16433 ≤ cap ∧ Hid (Own W0 w' ((g, 5, n8 s.dump ++ ex) :: Po p s :: l)) := by
  have HM := h
  have HF := Lib.hid hs
  have HZ : Hid s.Sz := hs.sz
  have b0 := hs.ad
  obtain ⟨a0, h0⟩ : ∃ k, k = s.ad % 256 := ⟨_, rfl⟩
  obtain ⟨a1, h1⟩ : ∃ k, k = s.ad / 256 := ⟨_, rfl⟩
  have e0 : (s.ad : Int) % 256 = (a0 : Int) := by omega
  have e1 : (s.ad : Int) / 256 = (a1 : Int) := by omega
  have e2 : (a1 : Int) % 256 = (a1 : Int) := by omega
  have HD : Hid (n8 s.vr ++ n8 s.cr ++ n8 s.rg ++ [.int .u8 (a0 : Int), .int .u8 (a1 : Int), .int .u8 (s.co : Int), .int .u8 (s.lo : Int), .int .u8 0, .int .u8 (s.bu : Int)] = n8 (s.dumpB 0)) := by
    show _ = _
    unfold Pt.dumpB
    rw [n8_append, n8_append, n8_append, h0, h1, List.append_assoc, List.append_assoc]
    rfl
  have Z0 := Lib.hid HZ.out.1
  have Z1 := Lib.hid HZ.out.2.1
  have Z2 := Lib.hid HZ.out.2.2
  clear h hs h0 h1
  go_enter Try.func10, Try.ntmps10
  go_upto_region 5 with (first
    | ((with_reducible apply own_makes HM); exact rfl; exact rfl; exact rfl; exact room16433; exact rfl; intro w' g0 HM'; have HR := Lib.hid (row_nil (g := g0) (cs := n8 (List.replicate 16433 0)) (by rw [n8_length, List.length_replicate]) (by decide)); clear HM; have HM := HM'; clear HM')
    | ((with_reducible refine own_joins (L := Po p s :: l) HM (List.perm_append_singleton _ _).symm HR.out (.s .z) rfl rfl rfl (Pt.src_vr HZ.out) (n8_one _) (by rw [n8_length]; exact Z0.out) (by decide) (by decide) rfl ?_); intro g1 c1 w1 R1 HR1 HM1; (try simp only [List.cons_append] at HM1); (try simp only [Nat.zero_add] at HR1); (try simp only [Nat.reduceAdd] at HR1); (try simp only [List.nil_append] at HR1); clear HM HR; have HM := HM1; have HR := Lib.hid HR1; clear HM1 HR1)
    | ((with_reducible refine own_joins (L := Po p s :: l) HM (.of_eq List.cons_append.symm) HR.out .z rfl rfl rfl (Pt.src_cr HZ.out) (n8_one _) (by rw [n8_length]; exact Z1.out) (by decide) (by decide) rfl ?_); intro g1 c1 w1 R1 HR1 HM1; (try simp only [List.cons_append] at HM1); (try simp only [Nat.zero_add] at HR1); (try simp only [Nat.reduceAdd] at HR1); (try simp only [List.nil_append] at HR1); clear HM HR; have HM := HM1; have HR := Lib.hid HR1; clear HM1 HR1)
    | ((with_reducible refine own_joins (L := Po p s :: l) HM (.of_eq List.cons_append.symm) HR.out .z rfl rfl rfl (Pt.src_rg HZ.out) (n8_one _) (by rw [n8_length]; exact Z2.out) (by decide) (by decide) rfl ?_); intro g1 c1 w1 R1 HR1 HM1; (try simp only [List.cons_append] at HM1); (try simp only [Nat.zero_add] at HR1); (try simp only [Nat.reduceAdd] at HR1); (try simp only [List.nil_append] at HR1); clear HM HR; have HM := HM1; have HR := Lib.hid HR1; clear HM1 HR1))
  go_cut [3] from 23 to 48 (fun s3 wx => ∃ g cap ex, s3 = .slice (some ⟨g, 0, none⟩) 16433 cap ∧ 16433 ≤ cap ∧ Hid (Own W0 wx ((g, 5, n8 (s.dumpB 0) ++ ex) :: Po p s :: l)))
  case' first =>
    refine wp_region_held (S := fun w' => Own W0 w' (Po p s :: l)) (by kernel_rfl) ?_
    replace HM := Lib.hid HM.out.drew
    change wpAnyH _ _ _ _ _ _ _ _ (World.drew _)
    have HQ := HM.out.sub (l' := Po p s :: l) (.cons_cons _ (List.sublist_append_left _ _))
    refine h_take (i := 0) (d := 23) (v := .slice (some ⟨g1, 0, none⟩) 16427 c1) rfl rfl (by kernel_rfl) (by kernel_rfl) (by kernel_rfl) (fun _ _ _ h => h) (y_pure rfl (fun w => by go_simp)) HQ ?_
    (try simp only [Act.put, List.setIfInBounds_toArray, List.set_cons_zero, List.set_cons_succ])
    refine h_take (i := 1) (d := 24) (v := .pointer (some ⟨p, 0, none⟩)) rfl rfl (by kernel_rfl) (by kernel_rfl) (by kernel_rfl) (fun _ _ _ h => h) (y_pure rfl (fun w => by go_simp)) HQ ?_
    (try simp only [Act.put, List.setIfInBounds_toArray, List.set_cons_zero, List.set_cons_succ])
    refine h_take (i := 2) (d := 25) (v := .pointer (some ⟨p, 0, none⟩)) rfl rfl (by kernel_rfl) (by kernel_rfl) (by kernel_rfl) (fun _ _ _ h => h) (y_pure rfl (fun w => by go_simp)) HQ ?_
    (try simp only [Act.put, List.setIfInBounds_toArray, List.set_cons_zero, List.set_cons_succ])
    refine h_take (i := 3) (d := 26) (v := .pointer (some ⟨p, 16427, none⟩)) rfl rfl (by kernel_rfl) (by kernel_rfl) (by kernel_rfl) (fun _ _ _ h => h) (y_pure rfl (fun w => by go_simp)) HQ ?_
    (try simp only [Act.put, List.setIfInBounds_toArray, List.set_cons_zero, List.set_cons_succ])
    refine h_take (i := 4) (d := 27) (v := .int .u16 (s.ad : Int)) rfl rfl (by kernel_rfl) (by kernel_rfl) (by kernel_rfl) (fun _ _ _ h => h) (y_get (g := p) (off := 16427) rfl rfl oneU16 .z (Pt.at_ad HZ.out) rfl) HQ ?_
    (try simp only [Act.put, List.setIfInBounds_toArray, List.set_cons_zero, List.set_cons_succ])
    refine h_take (i := 5) (d := 28) (v := .int .u8 (a0 : Int)) rfl rfl (by kernel_rfl) (by kernel_rfl) (by kernel_rfl) (fun _ _ _ h => h) (y_pure rfl (fun w => by go_simp; rw [IntKind.wrap_u8]; exact e0)) HQ ?_
    (try simp only [Act.put, List.setIfInBounds_toArray, List.set_cons_zero, List.set_cons_succ])
    refine h_take (i := 6) (d := 29) (v := .pointer (some ⟨p, 0, none⟩)) rfl rfl (by kernel_rfl) (by kernel_rfl) (by kernel_rfl) (fun _ _ _ h => h) (y_pure rfl (fun w => by go_simp)) HQ ?_
    (try simp only [Act.put, List.setIfInBounds_toArray, List.set_cons_zero, List.set_cons_succ])
    refine h_take (i := 7) (d := 30) (v := .pointer (some ⟨p, 0, none⟩)) rfl rfl (by kernel_rfl) (by kernel_rfl) (by kernel_rfl) (fun _ _ _ h => h) (y_pure rfl (fun w => by go_simp)) HQ ?_
    (try simp only [Act.put, List.setIfInBounds_toArray, List.set_cons_zero, List.set_cons_succ])
    refine h_take (i := 8) (d := 31) (v := .pointer (some ⟨p, 16427, none⟩)) rfl rfl (by kernel_rfl) (by kernel_rfl) (by kernel_rfl) (fun _ _ _ h => h) (y_pure rfl (fun w => by go_simp)) HQ ?_
    (try simp only [Act.put, List.setIfInBounds_toArray, List.set_cons_zero, List.set_cons_succ])
    refine h_take (i := 9) (d := 32) (v := .int .u16 (s.ad : Int)) rfl rfl (by kernel_rfl) (by kernel_rfl) (by kernel_rfl) (fun _ _ _ h => h) (y_get (g := p) (off := 16427) rfl rfl oneU16 .z (Pt.at_ad HZ.out) rfl) HQ ?_
    (try simp only [Act.put, List.setIfInBounds_toArray, List.set_cons_zero, List.set_cons_succ])
    refine h_take (i := 10) (d := 33) (v := .int .u16 (a1 : Int)) rfl rfl (by kernel_rfl) (by kernel_rfl) (by kernel_rfl) (fun _ _ _ h => h) (y_pure rfl (fun w => by go_simp)) HQ ?_
    (try simp only [Act.put, List.setIfInBounds_toArray, List.set_cons_zero, List.set_cons_succ])
    refine h_take (i := 11) (d := 34) (v := .int .u8 (a1 : Int)) rfl rfl (by kernel_rfl) (by kernel_rfl) (by kernel_rfl) (fun _ _ _ h => h) (y_pure rfl (fun w => by go_simp; rw [IntKind.wrap_u8]; exact e2)) HQ ?_
    (try simp only [Act.put, List.setIfInBounds_toArray, List.set_cons_zero, List.set_cons_succ])
    refine h_take (i := 12) (d := 35) (v := .pointer (some ⟨p, 0, none⟩)) rfl rfl (by kernel_rfl) (by kernel_rfl) (by kernel_rfl) (fun _ _ _ h => h) (y_pure rfl (fun w => by go_simp)) HQ ?_
    (try simp only [Act.put, List.setIfInBounds_toArray, List.set_cons_zero, List.set_cons_succ])
    refine h_take (i := 13) (d := 36) (v := .pointer (some ⟨p, 0, none⟩)) rfl rfl (by kernel_rfl) (by kernel_rfl) (by kernel_rfl) (fun _ _ _ h => h) (y_pure rfl (fun w => by go_simp)) HQ ?_
    (try simp only [Act.put, List.setIfInBounds_toArray, List.set_cons_zero, List.set_cons_succ])
    refine h_take (i := 14) (d := 37) (v := .pointer (some ⟨p, 16428, none⟩)) rfl rfl (by kernel_rfl) (by kernel_rfl) (by kernel_rfl) (fun _ _ _ h => h) (y_pure rfl (fun w => by go_simp)) HQ ?_
    (try simp only [Act.put, List.setIfInBounds_toArray, List.set_cons_zero, List.set_cons_succ])
    refine h_take (i := 15) (d := 38) (v := .int .u8 (s.co : Int)) rfl rfl (by kernel_rfl) (by kernel_rfl) (by kernel_rfl) (fun _ _ _ h => h) (y_get (g := p) (off := 16428) rfl rfl oneU8 .z (Pt.at_co HZ.out) rfl) HQ ?_
    (try simp only [Act.put, List.setIfInBounds_toArray, List.set_cons_zero, List.set_cons_succ])
    refine h_take (i := 16) (d := 39) (v := .pointer (some ⟨p, 0, none⟩)) rfl rfl (by kernel_rfl) (by kernel_rfl) (by kernel_rfl) (fun _ _ _ h => h) (y_pure rfl (fun w => by go_simp)) HQ ?_
    (try simp only [Act.put, List.setIfInBounds_toArray, List.set_cons_zero, List.set_cons_succ])
    refine h_take (i := 17) (d := 40) (v := .pointer (some ⟨p, 0, none⟩)) rfl rfl (by kernel_rfl) (by kernel_rfl) (by kernel_rfl) (fun _ _ _ h => h) (y_pure rfl (fun w => by go_simp)) HQ ?_
    (try simp only [Act.put, List.setIfInBounds_toArray, List.set_cons_zero, List.set_cons_succ])
    refine h_take (i := 18) (d := 41) (v := .pointer (some ⟨p, 16429, none⟩)) rfl rfl (by kernel_rfl) (by kernel_rfl) (by kernel_rfl) (fun _ _ _ h => h) (y_pure rfl (fun w => by go_simp)) HQ ?_
    (try simp only [Act.put, List.setIfInBounds_toArray, List.set_cons_zero, List.set_cons_succ])
    refine h_take (i := 19) (d := 42) (v := .int .u8 (s.lo : Int)) rfl rfl (by kernel_rfl) (by kernel_rfl) (by kernel_rfl) (fun _ _ _ h => h) (y_get (g := p) (off := 16429) rfl rfl oneU8 .z (Pt.at_lo HZ.out) rfl) HQ ?_
    (try simp only [Act.put, List.setIfInBounds_toArray, List.set_cons_zero, List.set_cons_succ])
    refine h_take (i := 20) (d := 43) (v := .pointer (some ⟨p, 0, none⟩)) rfl rfl (by kernel_rfl) (by kernel_rfl) (by kernel_rfl) (fun _ _ _ h => h) (y_pure rfl (fun w => by go_simp)) HQ ?_
    (try simp only [Act.put, List.setIfInBounds_toArray, List.set_cons_zero, List.set_cons_succ])
    refine h_take (i := 21) (d := 44) (v := .pointer (some ⟨p, 0, none⟩)) rfl rfl (by kernel_rfl) (by kernel_rfl) (by kernel_rfl) (fun _ _ _ h => h) (y_pure rfl (fun w => by go_simp)) HQ ?_
    (try simp only [Act.put, List.setIfInBounds_toArray, List.set_cons_zero, List.set_cons_succ])
    refine h_take (i := 22) (d := 45) (v := .pointer (some ⟨p, 16431, none⟩)) rfl rfl (by kernel_rfl) (by kernel_rfl) (by kernel_rfl) (fun _ _ _ h => h) (y_pure rfl (fun w => by go_simp)) HQ ?_
    (try simp only [Act.put, List.setIfInBounds_toArray, List.set_cons_zero, List.set_cons_succ])
    refine h_take (i := 23) (d := 46) (v := .int .u8 (s.bu : Int)) rfl rfl (by kernel_rfl) (by kernel_rfl) (by kernel_rfl) (fun _ _ _ h => h) (y_get (g := p) (off := 16431) rfl rfl oneU8 .z (Pt.at_bu HZ.out) rfl) HQ ?_
    (try simp only [Act.put, List.setIfInBounds_toArray, List.set_cons_zero, List.set_cons_succ])
    refine wpAnyH_all (rs := [24]) (by kernel_rfl) (by simp) ?_
    intro i hi
    obtain rfl := List.mem_singleton.1 hi
    refine wpOp_of rfl rfl ?_
    refine w_made (cs := [.int .u8 (a0 : Int), .int .u8 (a1 : Int), .int .u8 (s.co : Int), .int .u8 (s.lo : Int), .int .u8 0, .int .u8 (s.bu : Int)]) (e := 5) (n := 6) HM rfl (dump_made (a0 : Int) (a1 : Int) (s.co : Int) (s.lo : Int) 0 (s.bu : Int)) (by go_simp) ?_
    intro w2 g2 HM2
    refine ⟨HM2.out.forget.sub (.cons_cons _ (List.sublist_append_left _ _)), ?_⟩
    clear HQ HM
    change wpAnyH _ _ _ _ _ _ _ (Act.put _ (some 47) _) _
    (try simp only [Act.put, List.setIfInBounds_toArray, List.set_cons_zero, List.set_cons_succ])
    refine wpAnyH_all (rs := [25]) (by kernel_rfl) (by simp) ?_
    intro i hi
    obtain rfl := List.mem_singleton.1 hi
    refine wpOp_of rfl rfl ?_
    refine wp_joins (L := (g2, 5, [.int .u8 (a0 : Int), .int .u8 (a1 : Int), .int .u8 (s.co : Int), .int .u8 (s.lo : Int), .int .u8 0, .int .u8 (s.bu : Int)]) :: Po p s :: l) HM2 (perm_app2 _ _ _ _) HR.out .z rfl rfl rfl self_src (one6 _ _ _ _ _ _) rfl (by decide) (by decide) ?_
    intro g3 c3 w3 R3 HR3 HM3
    rw [HD.out] at HR3
    obtain ⟨g, cap, ex, he, hc, HO⟩ := row_open HM3.out HR3 (by decide)
    injection he with he1 he2 he3
    injection he1 with he1
    injection he1 with he1
    subst he1 he3
    have HM4 := Lib.hid ((HO.perm (List.Perm.swap _ _ _)).sub (List.sublist_cons_self _ _))
    refine ⟨HM4.out.forget, ?_⟩
    change wpAnyH _ _ _ _ _ _ _ (Act.put _ (some 48) _) _
    (try simp only [Act.put, List.setIfInBounds_toArray, List.set_cons_zero, List.set_cons_succ])
    refine h_take (i := 26) (d := 3) (v := .slice (some ⟨g3, 0, none⟩) 16433 c3) rfl rfl (by kernel_rfl) (by kernel_rfl) (by kernel_rfl) (fun _ _ _ h => h) (y_pure rfl (fun w => by go_simp)) HM4.out.forget ?_
    (try simp only [Act.put, List.setIfInBounds_toArray, List.set_cons_zero, List.set_cons_succ])
    refine wpAnyH_done (by kernel_rfl) ?_ _
    go_wp2_with fail
    go_meet
    exact ⟨g3, c3, ex, rfl, hc, HM4⟩
  case' rest =>
    clear HM HR
    obtain ⟨g3, c3, ex, rfl, hc, HM⟩ := hcut
    cases hse : s.se
    all_goals
      go_wp2_with (first
        | ((with_reducible apply own_get HM); exact rfl; exact rfl; (first | (with_reducible exact oneU8) | (with_reducible exact oneU16) | (with_reducible exact oneBool) | (with_reducible exact oneInt) | (with_reducible exact oneBs)); (first | with_reducible exact .z | with_reducible exact .s .z | with_reducible exact .s (.s .z) | with_reducible exact .s (.s (.s .z)) | with_reducible exact .s (.s (.s (.s .z))) | with_reducible exact .s (.s (.s (.s (.s .z)))) | (with_reducible exact Sel.s HS.out)); (first | (with_reducible exact HB0.out) | (with_reducible exact HB1.out) | (with_reducible exact HB2.out) | (with_reducible exact HB3.out) | (with_reducible exact HB4.out) | (with_reducible exact HB5.out) | (with_reducible exact Pt.at_se' (by first | (with_reducible exact HZ.out) | (focus (obtain ⟨hz1, hz2, hz3⟩ := HZ.out; exact ⟨by simpa using hz1, by simpa using hz2, by simpa using hz3⟩))) (by assumption)) | (with_reducible exact Pt.at_co' (by first | (with_reducible exact HZ.out) | (focus (obtain ⟨hz1, hz2, hz3⟩ := HZ.out; exact ⟨by simpa using hz1, by simpa using hz2, by simpa using hz3⟩))) (by assumption)) | (with_reducible exact Pt.r_se' (by assumption)) | (with_reducible exact Pt.r_co' (by assumption)) | (with_reducible exact Pt.at_ad (by first | (with_reducible exact HZ.out) | (focus (obtain ⟨hz1, hz2, hz3⟩ := HZ.out; exact ⟨by simpa using hz1, by simpa using hz2, by simpa using hz3⟩)))) | (with_reducible exact Pt.at_co (by first | (with_reducible exact HZ.out) | (focus (obtain ⟨hz1, hz2, hz3⟩ := HZ.out; exact ⟨by simpa using hz1, by simpa using hz2, by simpa using hz3⟩)))) | (with_reducible exact Pt.at_lo (by first | (with_reducible exact HZ.out) | (focus (obtain ⟨hz1, hz2, hz3⟩ := HZ.out; exact ⟨by simpa using hz1, by simpa using hz2, by simpa using hz3⟩)))) | (with_reducible exact Pt.at_se (by first | (with_reducible exact HZ.out) | (focus (obtain ⟨hz1, hz2, hz3⟩ := HZ.out; exact ⟨by simpa using hz1, by simpa using hz2, by simpa using hz3⟩)))) | (with_reducible exact Pt.at_bu (by first | (with_reducible exact HZ.out) | (focus (obtain ⟨hz1, hz2, hz3⟩ := HZ.out; exact ⟨by simpa using hz1, by simpa using hz2, by simpa using hz3⟩)))) | (with_reducible exact Pt.at_vr (by first | (with_reducible exact HZ.out) | (focus (obtain ⟨hz1, hz2, hz3⟩ := HZ.out; exact ⟨by simpa using hz1, by simpa using hz2, by simpa using hz3⟩))) (by omega)) | (with_reducible exact Pt.at_rg (by first | (with_reducible exact HZ.out) | (focus (obtain ⟨hz1, hz2, hz3⟩ := HZ.out; exact ⟨by simpa using hz1, by simpa using hz2, by simpa using hz3⟩))) (by omega)) | (with_reducible exact Pt.r_vr) | (with_reducible exact Pt.r_cr) | (with_reducible exact Pt.r_rg) | (with_reducible exact Pt.r_ad) | (with_reducible exact Pt.r_co) | (with_reducible exact Pt.r_lo) | (with_reducible exact Pt.r_bu) | (with_reducible exact Pt.r_se) | (with_reducible exact n8_get' _ _ (by obtain ⟨hz1, hz2, hz3⟩ := HZ.out; omega) hX.out) | (with_reducible exact n8_get _ _ (by obtain ⟨hz1, hz2, hz3⟩ := HZ.out; omega))); exact rfl; all_goals skip)
        | ((with_reducible apply own_get HM); exact rfl; exact rfl; (with_reducible exact oneBool); (with_reducible exact .s .z); exact Pt.at_se' HZ.out (by assumption); exact rfl; all_goals skip)
        | ((with_reducible apply po_put HM); exact rfl; exact rfl; (conv => lhs; whnf); (with_reducible exact .z); exact dump_set HZ.out; (with_reducible exact .z); (with_reducible exact oneU8.size); exact rfl; exact rfl; (focus (rw [List.length_append, n8_length, Pt.dumpB_length HZ.out]; omega)); exact rfl; intro w' HM'; clear HM; have HM := HM'; clear HM'))
      go_ret
      refine ⟨_, _, ex, rfl, hc, ?_⟩
      rw [show s.dump = _ from by unfold Pt.dump; rw [hse]; first | done | exact rfl]
      exact HM

end Go.Proofs.Ytbjghlcdbmooaaa
