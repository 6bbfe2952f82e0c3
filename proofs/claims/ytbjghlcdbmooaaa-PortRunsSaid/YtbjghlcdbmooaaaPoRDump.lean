/-
  Dump of the document's port: all of it, as bytes.
-/
import Derived.Test.YtbjghlcdbmooaaaPoDump0
import Derived.Deep.Cut
import Derived.Deep.CutRange
namespace Go.Proofs.Ytbjghlcdbmooaaa
open Go.RowKit

set_option maxRecDepth 100000 in
set_option maxHeartbeats 1600000 in
theorem rdump_at {W0 w : World} {p d c g : Nat} {s : Pt} {l : Blks} (hs : s.Ok) (h : Hid (Own W0 w (Rp p d c g s l))) :
    Calls Try.prog 22 #[.pointer (some ⟨p, 0, none⟩)] w fun e w' => ∃ gd cap ex, e = .returned (.slice (some ⟨gd, 0, none⟩) 16433 cap) ∧ 16433 ≤ cap ∧ Hid (Own W0 w' ((gd, 5, n8 s.dump ++ ex) :: Rp p d c g s l)) := by
  have HM := h
  have HF := Lib.hid hs
  have HZ : Hid s.Sz := hs.sz
  have b0 := hs.ad
  have b1 := hs.co
  have b2 := hs.lo
  have b3 := hs.bu
  obtain ⟨a0, h0⟩ : ∃ k, k = s.ad % 256 := ⟨_, rfl⟩
  obtain ⟨a1, h1⟩ : ∃ k, k = s.ad / 256 := ⟨_, rfl⟩
  have e0 : (s.ad : Int) % 256 = (a0 : Int) := by omega
  have e1 : (s.ad : Int) / 256 = (a1 : Int) := by omega
  have e2 : (a1 : Int) % 256 = (a1 : Int) := by omega
  have e3 : (a0 : Int) % 256 = (a0 : Int) := by omega
  have b4 : a1 < 64 := by omega
  have e4 : (s.co : Int) % 256 = (s.co : Int) := by omega
  have e5 : (s.lo : Int) % 256 = (s.lo : Int) := by omega
  have e6 : (s.bu : Int) % 256 = (s.bu : Int) := by omega
  have e7 : (s.ad : Int).tmod 256 = (a0 : Int) := by rw [Int.tmod_eq_emod_of_nonneg (by omega)]; exact e0
  have e8 : (s.ad : Int).tdiv 256 = (a1 : Int) := by rw [Int.tdiv_eq_ediv_of_nonneg (by omega)]; exact e1
  have HD : ∀ q : Nat, Hid (n8 s.vr ++ n8 s.cr ++ n8 s.rg ++ [.int .u8 (a0 : Int), .int .u8 (a1 : Int), .int .u8 (s.co : Int), .int .u8 (s.lo : Int), .int .u8 (q : Int), .int .u8 (s.bu : Int)] = n8 (s.dumpB q)) := by
    intro q
    show _ = _
    unfold Pt.dumpB
    rw [n8_append, n8_append, n8_append, h0, h1, List.append_assoc, List.append_assoc]
    rfl
  have Z0 := Lib.hid HZ.out.1
  have Z1 := Lib.hid HZ.out.2.1
  have Z2 := Lib.hid HZ.out.2.2
  clear h hs h0 h1
  go_enter Try.func22, Try.ntmps22
  go_upto_region 1 with fail
  go_cut [3] from 5 to 20 (fun s3 wx => ∃ v R, s3 = v ∧ Hid (RowOf 5 1 R v 16427 (n8 s.vr ++ n8 s.cr ++ n8 s.rg)) ∧ Hid (Own W0 wx (Rp p d c g s l ++ R)))
  case' first =>
    refine wp_region_held (S := fun w' => Own W0 w' (Rp p d c g s l)) (by kernel_rfl) ?_
    replace HM := Lib.hid HM.out.drew
    change wpAnyH _ _ _ _ _ _ _ _ (World.drew _)
    have HQ := HM.out
    refine h_take (i := 1) (d := 6) (v := .pointer (some ⟨p, 0, none⟩)) rfl rfl (by kernel_rfl) (by kernel_rfl) (by kernel_rfl) (fun _ _ _ h => h) (y_pure rfl (fun w => by go_simp)) HQ ?_
    (try simp only [Act.put, List.setIfInBounds_toArray, List.set_cons_zero, List.set_cons_succ])
    refine h_take (i := 2) (d := 7) (v := .pointer (some ⟨p, 0, none⟩)) rfl rfl (by kernel_rfl) (by kernel_rfl) (by kernel_rfl) (fun _ _ _ h => h) (y_pure rfl (fun w => by go_simp)) HQ ?_
    (try simp only [Act.put, List.setIfInBounds_toArray, List.set_cons_zero, List.set_cons_succ])
    refine h_take (i := 3) (d := 8) (v := .pointer (some ⟨p, 0, none⟩)) rfl rfl (by kernel_rfl) (by kernel_rfl) (by kernel_rfl) (fun _ _ _ h => h) (y_pure rfl (fun w => by go_simp)) HQ ?_
    (try simp only [Act.put, List.setIfInBounds_toArray, List.set_cons_zero, List.set_cons_succ])
    refine h_take (i := 4) (d := 9) (v := .slice (some ⟨d, 0, none⟩) 16384 16384) rfl rfl (by kernel_rfl) (by kernel_rfl) (by kernel_rfl) (fun _ _ _ h => h) (y_get (g := p) (off := 0) rfl rfl oneBs .z (Pt.r_vr) rfl) HQ ?_
    (try simp only [Act.put, List.setIfInBounds_toArray, List.set_cons_zero, List.set_cons_succ])
    refine h_take (i := 6) (d := 11) (v := .pointer (some ⟨p, 0, none⟩)) rfl rfl (by kernel_rfl) (by kernel_rfl) (by kernel_rfl) (fun _ _ _ h => h) (y_pure rfl (fun w => by go_simp)) HQ ?_
    (try simp only [Act.put, List.setIfInBounds_toArray, List.set_cons_zero, List.set_cons_succ])
    refine h_take (i := 7) (d := 12) (v := .pointer (some ⟨p, 0, none⟩)) rfl rfl (by kernel_rfl) (by kernel_rfl) (by kernel_rfl) (fun _ _ _ h => h) (y_pure rfl (fun w => by go_simp)) HQ ?_
    (try simp only [Act.put, List.setIfInBounds_toArray, List.set_cons_zero, List.set_cons_succ])
    refine h_take (i := 8) (d := 13) (v := .pointer (some ⟨p, 1, none⟩)) rfl rfl (by kernel_rfl) (by kernel_rfl) (by kernel_rfl) (fun _ _ _ h => h) (y_pure rfl (fun w => by go_simp)) HQ ?_
    (try simp only [Act.put, List.setIfInBounds_toArray, List.set_cons_zero, List.set_cons_succ])
    refine h_take (i := 9) (d := 14) (v := .slice (some ⟨c, 0, none⟩) 32 32) rfl rfl (by kernel_rfl) (by kernel_rfl) (by kernel_rfl) (fun _ _ _ h => h) (y_get (g := p) (off := 1) rfl rfl oneBs .z (Pt.r_cr) rfl) HQ ?_
    (try simp only [Act.put, List.setIfInBounds_toArray, List.set_cons_zero, List.set_cons_succ])
    refine h_take (i := 11) (d := 16) (v := .pointer (some ⟨p, 0, none⟩)) rfl rfl (by kernel_rfl) (by kernel_rfl) (by kernel_rfl) (fun _ _ _ h => h) (y_pure rfl (fun w => by go_simp)) HQ ?_
    (try simp only [Act.put, List.setIfInBounds_toArray, List.set_cons_zero, List.set_cons_succ])
    refine h_take (i := 12) (d := 17) (v := .pointer (some ⟨p, 0, none⟩)) rfl rfl (by kernel_rfl) (by kernel_rfl) (by kernel_rfl) (fun _ _ _ h => h) (y_pure rfl (fun w => by go_simp)) HQ ?_
    (try simp only [Act.put, List.setIfInBounds_toArray, List.set_cons_zero, List.set_cons_succ])
    refine h_take (i := 13) (d := 18) (v := .pointer (some ⟨p, 2, none⟩)) rfl rfl (by kernel_rfl) (by kernel_rfl) (by kernel_rfl) (fun _ _ _ h => h) (y_pure rfl (fun w => by go_simp)) HQ ?_
    (try simp only [Act.put, List.setIfInBounds_toArray, List.set_cons_zero, List.set_cons_succ])
    refine h_take (i := 14) (d := 19) (v := .slice (some ⟨g, 0, none⟩) 11 11) rfl rfl (by kernel_rfl) (by kernel_rfl) (by kernel_rfl) (fun _ _ _ h => h) (y_get (g := p) (off := 2) rfl rfl oneBs .z (Pt.r_rg) rfl) HQ ?_
    (try simp only [Act.put, List.setIfInBounds_toArray, List.set_cons_zero, List.set_cons_succ])
    refine wpAnyH_all (rs := [0]) (by kernel_rfl) (by simp) ?_
    intro i hi
    obtain rfl := List.mem_singleton.1 hi
    refine wpOp_of rfl rfl ?_
    refine w_made (cs := []) (e := 5) (n := 0) HM rfl made_none (by go_simp) ?_
    intro w2 g2 HM2
    refine ⟨HM2.out.forget, ?_⟩
    clear HQ HM
    have HR0 := row_nil (g := g2) (cs := []) (n := 0) rfl (by decide)
    change wpAnyH _ _ _ _ _ _ _ (Act.put _ (some 5) _) _
    (try simp only [Act.put, List.setIfInBounds_toArray, List.set_cons_zero, List.set_cons_succ])
    refine wpAnyH_all (rs := [5]) (by kernel_rfl) (by simp) ?_
    intro i hi
    obtain rfl := List.mem_singleton.1 hi
    refine wpOp_of rfl rfl ?_
    refine wp_joins (L := Rp p d c g s l) HM2 (List.perm_append_singleton _ _).symm HR0 (.s (.s .z)) rfl rfl rfl self_src (n8_one _) (by rw [n8_length]; exact Z0.out) (by decide) (by decide) ?_
    intro g3 c3 w3 R3 HR3 HM3
    (try simp only [Nat.zero_add] at HR3)
    (try simp only [Nat.reduceAdd] at HR3)
    (try simp only [List.nil_append] at HR3)
    refine ⟨HM3.out.sub (List.sublist_append_left _ _), ?_⟩
    change wpAnyH _ _ _ _ _ _ _ (Act.put _ (some 10) _) _
    (try simp only [Nat.zero_add])
    (try simp only [Nat.reduceAdd])
    (try simp only [Act.put, List.setIfInBounds_toArray, List.set_cons_zero, List.set_cons_succ])
    refine wpAnyH_all (rs := [10]) (by kernel_rfl) (by simp) ?_
    intro i hi
    obtain rfl := List.mem_singleton.1 hi
    refine wpOp_of rfl rfl ?_
    refine wp_joins (L := Rp p d c g s l) HM3 (.refl _) HR3 (Sel.app (l := Rp p d c g s l) (.s (.s .z)) _) rfl rfl rfl self_src (n8_one _) (by rw [n8_length]; exact Z1.out) (by decide) (by decide) ?_
    intro g4 c4 w4 R4 HR4 HM4
    (try simp only [Nat.zero_add] at HR4)
    (try simp only [Nat.reduceAdd] at HR4)
    (try simp only [List.nil_append] at HR4)
    refine ⟨HM4.out.sub (List.sublist_append_left _ _), ?_⟩
    change wpAnyH _ _ _ _ _ _ _ (Act.put _ (some 15) _) _
    (try simp only [Nat.zero_add])
    (try simp only [Nat.reduceAdd])
    (try simp only [Act.put, List.setIfInBounds_toArray, List.set_cons_zero, List.set_cons_succ])
    refine wpAnyH_all (rs := [15]) (by kernel_rfl) (by simp) ?_
    intro i hi
    obtain rfl := List.mem_singleton.1 hi
    refine wpOp_of rfl rfl ?_
    refine wp_joins (L := Rp p d c g s l) HM4 (.refl _) HR4 (Sel.app (l := Rp p d c g s l) (.s (.s (.s .z))) _) rfl rfl rfl self_src (n8_one _) (by rw [n8_length]; exact Z2.out) (by decide) (by decide) ?_
    intro g5 c5 w5 R5 HR5 HM5
    (try simp only [Nat.zero_add] at HR5)
    (try simp only [Nat.reduceAdd] at HR5)
    (try simp only [List.nil_append] at HR5)
    refine ⟨HM5.out.sub (List.sublist_append_left _ _), ?_⟩
    change wpAnyH _ _ _ _ _ _ _ (Act.put _ (some 20) _) _
    (try simp only [Nat.zero_add])
    (try simp only [Nat.reduceAdd])
    (try simp only [Act.put, List.setIfInBounds_toArray, List.set_cons_zero, List.set_cons_succ])
    refine h_take (i := 16) (d := 3) (v := .slice (some ⟨g5, 0, none⟩) 16427 c5) rfl rfl (by kernel_rfl) (by kernel_rfl) (by kernel_rfl) (fun _ _ _ h => h) (y_pure rfl (fun w => by go_simp)) (HM5.out.sub (List.sublist_append_left _ _)) ?_
    (try simp only [Act.put, List.setIfInBounds_toArray, List.set_cons_zero, List.set_cons_succ])
    refine wpAnyH_done (by kernel_rfl) ?_ _
    go_wp2_with fail
    go_meet
    exact ⟨_, R5, rfl, Lib.hid HR5, HM5⟩
  case' rest =>
    clear HM
    obtain ⟨v, R, rfl, HR, HM⟩ := hcut
    replace HM : Hid (Own W0 _ (Rp p d c g s (l ++ R))) := HM
    cases hse : s.se
    · go_upto_region 5 with (first | ((with_reducible apply own_get HM); exact rfl; exact rfl; (first | (with_reducible exact oneU8) | (with_reducible exact oneU16) | (with_reducible exact oneBool) | (with_reducible exact oneInt) | (with_reducible exact oneBs)); (first | with_reducible exact .z | with_reducible exact .s .z | with_reducible exact .s (.s .z) | with_reducible exact .s (.s (.s .z)) | with_reducible exact .s (.s (.s (.s .z))) | with_reducible exact .s (.s (.s (.s (.s .z)))) | (with_reducible exact Sel.s HS.out)); (first | (with_reducible exact HB0.out) | (with_reducible exact HB1.out) | (with_reducible exact HB2.out) | (with_reducible exact HB3.out) | (with_reducible exact HB4.out) | (with_reducible exact HB5.out) | (with_reducible exact Pt.at_se' (by first | (with_reducible exact HZ.out) | (focus (obtain ⟨hz1, hz2, hz3⟩ := HZ.out; exact ⟨by simpa using hz1, by simpa using hz2, by simpa using hz3⟩))) (by assumption)) | (with_reducible exact Pt.at_co' (by first | (with_reducible exact HZ.out) | (focus (obtain ⟨hz1, hz2, hz3⟩ := HZ.out; exact ⟨by simpa using hz1, by simpa using hz2, by simpa using hz3⟩))) (by assumption)) | (with_reducible exact Pt.r_se' (by assumption)) | (with_reducible exact Pt.r_co' (by assumption)) | (with_reducible exact Pt.at_ad (by first | (with_reducible exact HZ.out) | (focus (obtain ⟨hz1, hz2, hz3⟩ := HZ.out; exact ⟨by simpa using hz1, by simpa using hz2, by simpa using hz3⟩)))) | (with_reducible exact Pt.at_co (by first | (with_reducible exact HZ.out) | (focus (obtain ⟨hz1, hz2, hz3⟩ := HZ.out; exact ⟨by simpa using hz1, by simpa using hz2, by simpa using hz3⟩)))) | (with_reducible exact Pt.at_lo (by first | (with_reducible exact HZ.out) | (focus (obtain ⟨hz1, hz2, hz3⟩ := HZ.out; exact ⟨by simpa using hz1, by simpa using hz2, by simpa using hz3⟩)))) | (with_reducible exact Pt.at_se (by first | (with_reducible exact HZ.out) | (focus (obtain ⟨hz1, hz2, hz3⟩ := HZ.out; exact ⟨by simpa using hz1, by simpa using hz2, by simpa using hz3⟩)))) | (with_reducible exact Pt.at_bu (by first | (with_reducible exact HZ.out) | (focus (obtain ⟨hz1, hz2, hz3⟩ := HZ.out; exact ⟨by simpa using hz1, by simpa using hz2, by simpa using hz3⟩)))) | (with_reducible exact Pt.at_vr (by first | (with_reducible exact HZ.out) | (focus (obtain ⟨hz1, hz2, hz3⟩ := HZ.out; exact ⟨by simpa using hz1, by simpa using hz2, by simpa using hz3⟩))) (by omega)) | (with_reducible exact Pt.at_rg (by first | (with_reducible exact HZ.out) | (focus (obtain ⟨hz1, hz2, hz3⟩ := HZ.out; exact ⟨by simpa using hz1, by simpa using hz2, by simpa using hz3⟩))) (by omega)) | (with_reducible exact Pt.r_vr) | (with_reducible exact Pt.r_cr) | (with_reducible exact Pt.r_rg) | (with_reducible exact Pt.r_ad) | (with_reducible exact Pt.r_co) | (with_reducible exact Pt.r_lo) | (with_reducible exact Pt.r_bu) | (with_reducible exact Pt.r_se) | (with_reducible exact n8_get' _ _ (by obtain ⟨hz1, hz2, hz3⟩ := HZ.out; omega) hX.out) | (with_reducible exact n8_get _ _ (by obtain ⟨hz1, hz2, hz3⟩ := HZ.out; omega))); exact rfl; all_goals skip))
      (try simp only [Act.put, List.setIfInBounds_toArray, List.set_cons_zero, List.set_cons_succ])
      go_cut [2] from 25 to 55 (fun s2 wx => ∃ gd cap ex, s2 = .slice (some ⟨gd, 0, none⟩) 16433 cap ∧ 16433 ≤ cap ∧ Hid (Own W0 wx ((gd, 5, n8 (s.dumpB 0) ++ ex) :: Rp p d c g s l)))
      case' first =>
        refine wp_region_held (S := fun w' => Own W0 w' (Rp p d c g s l)) (by kernel_rfl) ?_
        replace HM := Lib.hid HM.out.drew
        change wpAnyH _ _ _ _ _ _ _ _ (World.drew _)
        have HQ := HM.out.sub (l' := Rp p d c g s l) (.cons_cons _ (.cons_cons _ (.cons_cons _ (.cons_cons _ (List.sublist_append_left _ _)))))
        refine h_take (i := 0) (d := 25) (v := u3) rfl rfl (by kernel_rfl) (by kernel_rfl) (by kernel_rfl) (fun _ _ _ h => h) (y_pure rfl (fun w => by go_simp)) HQ ?_
        (try simp only [Act.put, List.setIfInBounds_toArray, List.set_cons_zero, List.set_cons_succ])
        refine h_take (i := 1) (d := 26) (v := .pointer (some ⟨p, 0, none⟩)) rfl rfl (by kernel_rfl) (by kernel_rfl) (by kernel_rfl) (fun _ _ _ h => h) (y_pure rfl (fun w => by go_simp)) HQ ?_
        (try simp only [Act.put, List.setIfInBounds_toArray, List.set_cons_zero, List.set_cons_succ])
        refine h_take (i := 2) (d := 27) (v := .pointer (some ⟨p, 0, none⟩)) rfl rfl (by kernel_rfl) (by kernel_rfl) (by kernel_rfl) (fun _ _ _ h => h) (y_pure rfl (fun w => by go_simp)) HQ ?_
        (try simp only [Act.put, List.setIfInBounds_toArray, List.set_cons_zero, List.set_cons_succ])
        refine h_take (i := 3) (d := 28) (v := .pointer (some ⟨p, 3, none⟩)) rfl rfl (by kernel_rfl) (by kernel_rfl) (by kernel_rfl) (fun _ _ _ h => h) (y_pure rfl (fun w => by go_simp)) HQ ?_
        (try simp only [Act.put, List.setIfInBounds_toArray, List.set_cons_zero, List.set_cons_succ])
        refine h_take (i := 4) (d := 29) (v := .int .i64 (s.ad : Int)) rfl rfl (by kernel_rfl) (by kernel_rfl) (by kernel_rfl) (fun _ _ _ h => h) (y_get (g := p) (off := 3) rfl rfl oneInt .z (Pt.r_ad) rfl) HQ ?_
        (try simp only [Act.put, List.setIfInBounds_toArray, List.set_cons_zero, List.set_cons_succ])
        refine h_take (i := 5) (d := 30) (v := .int .i64 (a0 : Int)) rfl rfl (by kernel_rfl) (by kernel_rfl) (by kernel_rfl) (fun _ _ _ h => h) (y_pure rfl (fun w => by go_simp)) HQ ?_
        (try simp only [Act.put, List.setIfInBounds_toArray, List.set_cons_zero, List.set_cons_succ])
        refine h_take (i := 6) (d := 31) (v := .int .u8 (a0 : Int)) rfl rfl (by kernel_rfl) (by kernel_rfl) (by kernel_rfl) (fun _ _ _ h => h) (y_pure rfl (fun w => by go_simp; first | done | (rw [IntKind.wrap_u8]; exact e3))) HQ ?_
        (try simp only [Act.put, List.setIfInBounds_toArray, List.set_cons_zero, List.set_cons_succ])
        refine h_take (i := 7) (d := 32) (v := .pointer (some ⟨p, 0, none⟩)) rfl rfl (by kernel_rfl) (by kernel_rfl) (by kernel_rfl) (fun _ _ _ h => h) (y_pure rfl (fun w => by go_simp)) HQ ?_
        (try simp only [Act.put, List.setIfInBounds_toArray, List.set_cons_zero, List.set_cons_succ])
        refine h_take (i := 8) (d := 33) (v := .pointer (some ⟨p, 0, none⟩)) rfl rfl (by kernel_rfl) (by kernel_rfl) (by kernel_rfl) (fun _ _ _ h => h) (y_pure rfl (fun w => by go_simp)) HQ ?_
        (try simp only [Act.put, List.setIfInBounds_toArray, List.set_cons_zero, List.set_cons_succ])
        refine h_take (i := 9) (d := 34) (v := .pointer (some ⟨p, 3, none⟩)) rfl rfl (by kernel_rfl) (by kernel_rfl) (by kernel_rfl) (fun _ _ _ h => h) (y_pure rfl (fun w => by go_simp)) HQ ?_
        (try simp only [Act.put, List.setIfInBounds_toArray, List.set_cons_zero, List.set_cons_succ])
        refine h_take (i := 10) (d := 35) (v := .int .i64 (s.ad : Int)) rfl rfl (by kernel_rfl) (by kernel_rfl) (by kernel_rfl) (fun _ _ _ h => h) (y_get (g := p) (off := 3) rfl rfl oneInt .z (Pt.r_ad) rfl) HQ ?_
        (try simp only [Act.put, List.setIfInBounds_toArray, List.set_cons_zero, List.set_cons_succ])
        refine h_take (i := 11) (d := 36) (v := .int .i64 (a1 : Int)) rfl rfl (by kernel_rfl) (by kernel_rfl) (by kernel_rfl) (fun _ _ _ h => h) (y_pure rfl (fun w => by go_simp; first | done | (rw [IntKind.wrap_i64]; omega))) HQ ?_
        (try simp only [Act.put, List.setIfInBounds_toArray, List.set_cons_zero, List.set_cons_succ])
        refine h_take (i := 12) (d := 37) (v := .int .u8 (a1 : Int)) rfl rfl (by kernel_rfl) (by kernel_rfl) (by kernel_rfl) (fun _ _ _ h => h) (y_pure rfl (fun w => by go_simp; first | done | (rw [IntKind.wrap_u8]; exact e2))) HQ ?_
        (try simp only [Act.put, List.setIfInBounds_toArray, List.set_cons_zero, List.set_cons_succ])
        refine h_take (i := 13) (d := 38) (v := .pointer (some ⟨p, 0, none⟩)) rfl rfl (by kernel_rfl) (by kernel_rfl) (by kernel_rfl) (fun _ _ _ h => h) (y_pure rfl (fun w => by go_simp)) HQ ?_
        (try simp only [Act.put, List.setIfInBounds_toArray, List.set_cons_zero, List.set_cons_succ])
        refine h_take (i := 14) (d := 39) (v := .pointer (some ⟨p, 0, none⟩)) rfl rfl (by kernel_rfl) (by kernel_rfl) (by kernel_rfl) (fun _ _ _ h => h) (y_pure rfl (fun w => by go_simp)) HQ ?_
        (try simp only [Act.put, List.setIfInBounds_toArray, List.set_cons_zero, List.set_cons_succ])
        refine h_take (i := 15) (d := 40) (v := .pointer (some ⟨p, 4, none⟩)) rfl rfl (by kernel_rfl) (by kernel_rfl) (by kernel_rfl) (fun _ _ _ h => h) (y_pure rfl (fun w => by go_simp)) HQ ?_
        (try simp only [Act.put, List.setIfInBounds_toArray, List.set_cons_zero, List.set_cons_succ])
        refine h_take (i := 16) (d := 41) (v := .int .i64 (s.co : Int)) rfl rfl (by kernel_rfl) (by kernel_rfl) (by kernel_rfl) (fun _ _ _ h => h) (y_get (g := p) (off := 4) rfl rfl oneInt .z (Pt.r_co) rfl) HQ ?_
        (try simp only [Act.put, List.setIfInBounds_toArray, List.set_cons_zero, List.set_cons_succ])
        refine h_take (i := 17) (d := 42) (v := .int .u8 (s.co : Int)) rfl rfl (by kernel_rfl) (by kernel_rfl) (by kernel_rfl) (fun _ _ _ h => h) (y_pure rfl (fun w => by go_simp; first | done | (rw [IntKind.wrap_u8]; exact e4))) HQ ?_
        (try simp only [Act.put, List.setIfInBounds_toArray, List.set_cons_zero, List.set_cons_succ])
        refine h_take (i := 18) (d := 43) (v := .pointer (some ⟨p, 0, none⟩)) rfl rfl (by kernel_rfl) (by kernel_rfl) (by kernel_rfl) (fun _ _ _ h => h) (y_pure rfl (fun w => by go_simp)) HQ ?_
        (try simp only [Act.put, List.setIfInBounds_toArray, List.set_cons_zero, List.set_cons_succ])
        refine h_take (i := 19) (d := 44) (v := .pointer (some ⟨p, 0, none⟩)) rfl rfl (by kernel_rfl) (by kernel_rfl) (by kernel_rfl) (fun _ _ _ h => h) (y_pure rfl (fun w => by go_simp)) HQ ?_
        (try simp only [Act.put, List.setIfInBounds_toArray, List.set_cons_zero, List.set_cons_succ])
        refine h_take (i := 20) (d := 45) (v := .pointer (some ⟨p, 5, none⟩)) rfl rfl (by kernel_rfl) (by kernel_rfl) (by kernel_rfl) (fun _ _ _ h => h) (y_pure rfl (fun w => by go_simp)) HQ ?_
        (try simp only [Act.put, List.setIfInBounds_toArray, List.set_cons_zero, List.set_cons_succ])
        refine h_take (i := 21) (d := 46) (v := .int .i64 (s.lo : Int)) rfl rfl (by kernel_rfl) (by kernel_rfl) (by kernel_rfl) (fun _ _ _ h => h) (y_get (g := p) (off := 5) rfl rfl oneInt .z (Pt.r_lo) rfl) HQ ?_
        (try simp only [Act.put, List.setIfInBounds_toArray, List.set_cons_zero, List.set_cons_succ])
        refine h_take (i := 22) (d := 47) (v := .int .u8 (s.lo : Int)) rfl rfl (by kernel_rfl) (by kernel_rfl) (by kernel_rfl) (fun _ _ _ h => h) (y_pure rfl (fun w => by go_simp; first | done | (rw [IntKind.wrap_u8]; exact e5))) HQ ?_
        (try simp only [Act.put, List.setIfInBounds_toArray, List.set_cons_zero, List.set_cons_succ])
        refine h_take (i := 23) (d := 48) (v := .int .u8 0) rfl rfl (by kernel_rfl) (by kernel_rfl) (by kernel_rfl) (fun _ _ _ h => h) (y_pure rfl (fun w => by go_simp)) HQ ?_
        (try simp only [Act.put, List.setIfInBounds_toArray, List.set_cons_zero, List.set_cons_succ])
        refine h_take (i := 24) (d := 49) (v := .pointer (some ⟨p, 0, none⟩)) rfl rfl (by kernel_rfl) (by kernel_rfl) (by kernel_rfl) (fun _ _ _ h => h) (y_pure rfl (fun w => by go_simp)) HQ ?_
        (try simp only [Act.put, List.setIfInBounds_toArray, List.set_cons_zero, List.set_cons_succ])
        refine h_take (i := 25) (d := 50) (v := .pointer (some ⟨p, 0, none⟩)) rfl rfl (by kernel_rfl) (by kernel_rfl) (by kernel_rfl) (fun _ _ _ h => h) (y_pure rfl (fun w => by go_simp)) HQ ?_
        (try simp only [Act.put, List.setIfInBounds_toArray, List.set_cons_zero, List.set_cons_succ])
        refine h_take (i := 26) (d := 51) (v := .pointer (some ⟨p, 6, none⟩)) rfl rfl (by kernel_rfl) (by kernel_rfl) (by kernel_rfl) (fun _ _ _ h => h) (y_pure rfl (fun w => by go_simp)) HQ ?_
        (try simp only [Act.put, List.setIfInBounds_toArray, List.set_cons_zero, List.set_cons_succ])
        refine h_take (i := 27) (d := 52) (v := .int .i64 (s.bu : Int)) rfl rfl (by kernel_rfl) (by kernel_rfl) (by kernel_rfl) (fun _ _ _ h => h) (y_get (g := p) (off := 6) rfl rfl oneInt .z (Pt.r_bu) rfl) HQ ?_
        (try simp only [Act.put, List.setIfInBounds_toArray, List.set_cons_zero, List.set_cons_succ])
        refine h_take (i := 28) (d := 53) (v := .int .u8 (s.bu : Int)) rfl rfl (by kernel_rfl) (by kernel_rfl) (by kernel_rfl) (fun _ _ _ h => h) (y_pure rfl (fun w => by go_simp; first | done | (rw [IntKind.wrap_u8]; exact e6))) HQ ?_
        (try simp only [Act.put, List.setIfInBounds_toArray, List.set_cons_zero, List.set_cons_succ])
        refine wpAnyH_all (rs := [29]) (by kernel_rfl) (by simp) ?_
        intro i hi
        obtain rfl := List.mem_singleton.1 hi
        refine wpOp_of rfl rfl ?_
        refine w_made (cs := [.int .u8 (a0 : Int), .int .u8 (a1 : Int), .int .u8 (s.co : Int), .int .u8 (s.lo : Int), .int .u8 0, .int .u8 (s.bu : Int)]) (e := 5) (n := 6) HM rfl (dump_made (a0 : Int) (a1 : Int) (s.co : Int) (s.lo : Int) 0 (s.bu : Int)) (by go_simp) ?_
        intro w2 g2 HM2
        refine ⟨HM2.out.forget.sub (.cons_cons _ (.cons_cons _ (.cons_cons _ (.cons_cons _ (List.sublist_append_left _ _))))), ?_⟩
        clear HQ HM
        change wpAnyH _ _ _ _ _ _ _ (Act.put _ (some 54) _) _
        (try simp only [Act.put, List.setIfInBounds_toArray, List.set_cons_zero, List.set_cons_succ])
        refine wpAnyH_all (rs := [30]) (by kernel_rfl) (by simp) ?_
        intro i hi
        obtain rfl := List.mem_singleton.1 hi
        refine wpOp_of rfl rfl ?_
        refine wp_joins (L := (g2, 5, [.int .u8 (a0 : Int), .int .u8 (a1 : Int), .int .u8 (s.co : Int), .int .u8 (s.lo : Int), .int .u8 0, .int .u8 (s.bu : Int)]) :: Rp p d c g s l) HM2 (.refl _) HR.out .z rfl rfl rfl self_src (one6 _ _ _ _ _ _) rfl (by decide) (by decide) ?_
        intro g3 c3 w3 R3 HR3 HM3
        rw [show (Value.int .u8 0) = Value.int .u8 ((0 : Nat) : Int) from rfl, (HD 0).out] at HR3
        obtain ⟨gd, cap, ex, he, hc, HO⟩ := row_open HM3.out HR3 (by decide)
        injection he with he1 he2 he3
        injection he1 with he1
        injection he1 with he1
        subst he1 he3
        have HM4 := Lib.hid ((HO.perm (List.Perm.swap _ _ _)).sub (List.sublist_cons_self _ _))
        refine ⟨HM4.out.forget, ?_⟩
        change wpAnyH _ _ _ _ _ _ _ (Act.put _ (some 55) _) _
        (try simp only [Act.put, List.setIfInBounds_toArray, List.set_cons_zero, List.set_cons_succ])
        refine h_take (i := 31) (d := 2) (v := .slice (some ⟨g3, 0, none⟩) 16433 c3) rfl rfl (by kernel_rfl) (by kernel_rfl) (by kernel_rfl) (fun _ _ _ h => h) (y_pure rfl (fun w => by go_simp)) HM4.out.forget ?_
        (try simp only [Act.put, List.setIfInBounds_toArray, List.set_cons_zero, List.set_cons_succ])
        refine wpAnyH_done (by kernel_rfl) ?_ _
        go_wp2_with fail
        go_meet
        exact ⟨g3, c3, ex, rfl, hc, HM4⟩
      case' rest =>
        clear HM HR
        obtain ⟨g3, c3, ex, rfl, hc, HM⟩ := hcut
        go_wp2_with fail
        go_ret
        refine ⟨_, _, ex, rfl, hc, ?_⟩
        rw [show s.dump = s.dumpB 0 from by unfold Pt.dump; rw [hse]; first | done | exact rfl]
        exact HM
    · go_upto_region 5 with (first | ((with_reducible apply own_get HM); exact rfl; exact rfl; (first | (with_reducible exact oneU8) | (with_reducible exact oneU16) | (with_reducible exact oneBool) | (with_reducible exact oneInt) | (with_reducible exact oneBs)); (first | with_reducible exact .z | with_reducible exact .s .z | with_reducible exact .s (.s .z) | with_reducible exact .s (.s (.s .z)) | with_reducible exact .s (.s (.s (.s .z))) | with_reducible exact .s (.s (.s (.s (.s .z)))) | (with_reducible exact Sel.s HS.out)); (first | (with_reducible exact HB0.out) | (with_reducible exact HB1.out) | (with_reducible exact HB2.out) | (with_reducible exact HB3.out) | (with_reducible exact HB4.out) | (with_reducible exact HB5.out) | (with_reducible exact Pt.at_se' (by first | (with_reducible exact HZ.out) | (focus (obtain ⟨hz1, hz2, hz3⟩ := HZ.out; exact ⟨by simpa using hz1, by simpa using hz2, by simpa using hz3⟩))) (by assumption)) | (with_reducible exact Pt.at_co' (by first | (with_reducible exact HZ.out) | (focus (obtain ⟨hz1, hz2, hz3⟩ := HZ.out; exact ⟨by simpa using hz1, by simpa using hz2, by simpa using hz3⟩))) (by assumption)) | (with_reducible exact Pt.r_se' (by assumption)) | (with_reducible exact Pt.r_co' (by assumption)) | (with_reducible exact Pt.at_ad (by first | (with_reducible exact HZ.out) | (focus (obtain ⟨hz1, hz2, hz3⟩ := HZ.out; exact ⟨by simpa using hz1, by simpa using hz2, by simpa using hz3⟩)))) | (with_reducible exact Pt.at_co (by first | (with_reducible exact HZ.out) | (focus (obtain ⟨hz1, hz2, hz3⟩ := HZ.out; exact ⟨by simpa using hz1, by simpa using hz2, by simpa using hz3⟩)))) | (with_reducible exact Pt.at_lo (by first | (with_reducible exact HZ.out) | (focus (obtain ⟨hz1, hz2, hz3⟩ := HZ.out; exact ⟨by simpa using hz1, by simpa using hz2, by simpa using hz3⟩)))) | (with_reducible exact Pt.at_se (by first | (with_reducible exact HZ.out) | (focus (obtain ⟨hz1, hz2, hz3⟩ := HZ.out; exact ⟨by simpa using hz1, by simpa using hz2, by simpa using hz3⟩)))) | (with_reducible exact Pt.at_bu (by first | (with_reducible exact HZ.out) | (focus (obtain ⟨hz1, hz2, hz3⟩ := HZ.out; exact ⟨by simpa using hz1, by simpa using hz2, by simpa using hz3⟩)))) | (with_reducible exact Pt.at_vr (by first | (with_reducible exact HZ.out) | (focus (obtain ⟨hz1, hz2, hz3⟩ := HZ.out; exact ⟨by simpa using hz1, by simpa using hz2, by simpa using hz3⟩))) (by omega)) | (with_reducible exact Pt.at_rg (by first | (with_reducible exact HZ.out) | (focus (obtain ⟨hz1, hz2, hz3⟩ := HZ.out; exact ⟨by simpa using hz1, by simpa using hz2, by simpa using hz3⟩))) (by omega)) | (with_reducible exact Pt.r_vr) | (with_reducible exact Pt.r_cr) | (with_reducible exact Pt.r_rg) | (with_reducible exact Pt.r_ad) | (with_reducible exact Pt.r_co) | (with_reducible exact Pt.r_lo) | (with_reducible exact Pt.r_bu) | (with_reducible exact Pt.r_se) | (with_reducible exact n8_get' _ _ (by obtain ⟨hz1, hz2, hz3⟩ := HZ.out; omega) hX.out) | (with_reducible exact n8_get _ _ (by obtain ⟨hz1, hz2, hz3⟩ := HZ.out; omega))); exact rfl; all_goals skip))
      (try simp only [Act.put, List.setIfInBounds_toArray, List.set_cons_zero, List.set_cons_succ])
      go_cut [2] from 25 to 55 (fun s2 wx => ∃ gd cap ex, s2 = .slice (some ⟨gd, 0, none⟩) 16433 cap ∧ 16433 ≤ cap ∧ Hid (Own W0 wx ((gd, 5, n8 (s.dumpB 1) ++ ex) :: Rp p d c g s l)))
      case' first =>
        refine wp_region_held (S := fun w' => Own W0 w' (Rp p d c g s l)) (by kernel_rfl) ?_
        replace HM := Lib.hid HM.out.drew
        change wpAnyH _ _ _ _ _ _ _ _ (World.drew _)
        have HQ := HM.out.sub (l' := Rp p d c g s l) (.cons_cons _ (.cons_cons _ (.cons_cons _ (.cons_cons _ (List.sublist_append_left _ _)))))
        refine h_take (i := 0) (d := 25) (v := u3) rfl rfl (by kernel_rfl) (by kernel_rfl) (by kernel_rfl) (fun _ _ _ h => h) (y_pure rfl (fun w => by go_simp)) HQ ?_
        (try simp only [Act.put, List.setIfInBounds_toArray, List.set_cons_zero, List.set_cons_succ])
        refine h_take (i := 1) (d := 26) (v := .pointer (some ⟨p, 0, none⟩)) rfl rfl (by kernel_rfl) (by kernel_rfl) (by kernel_rfl) (fun _ _ _ h => h) (y_pure rfl (fun w => by go_simp)) HQ ?_
        (try simp only [Act.put, List.setIfInBounds_toArray, List.set_cons_zero, List.set_cons_succ])
        refine h_take (i := 2) (d := 27) (v := .pointer (some ⟨p, 0, none⟩)) rfl rfl (by kernel_rfl) (by kernel_rfl) (by kernel_rfl) (fun _ _ _ h => h) (y_pure rfl (fun w => by go_simp)) HQ ?_
        (try simp only [Act.put, List.setIfInBounds_toArray, List.set_cons_zero, List.set_cons_succ])
        refine h_take (i := 3) (d := 28) (v := .pointer (some ⟨p, 3, none⟩)) rfl rfl (by kernel_rfl) (by kernel_rfl) (by kernel_rfl) (fun _ _ _ h => h) (y_pure rfl (fun w => by go_simp)) HQ ?_
        (try simp only [Act.put, List.setIfInBounds_toArray, List.set_cons_zero, List.set_cons_succ])
        refine h_take (i := 4) (d := 29) (v := .int .i64 (s.ad : Int)) rfl rfl (by kernel_rfl) (by kernel_rfl) (by kernel_rfl) (fun _ _ _ h => h) (y_get (g := p) (off := 3) rfl rfl oneInt .z (Pt.r_ad) rfl) HQ ?_
        (try simp only [Act.put, List.setIfInBounds_toArray, List.set_cons_zero, List.set_cons_succ])
        refine h_take (i := 5) (d := 30) (v := .int .i64 (a0 : Int)) rfl rfl (by kernel_rfl) (by kernel_rfl) (by kernel_rfl) (fun _ _ _ h => h) (y_pure rfl (fun w => by go_simp)) HQ ?_
        (try simp only [Act.put, List.setIfInBounds_toArray, List.set_cons_zero, List.set_cons_succ])
        refine h_take (i := 6) (d := 31) (v := .int .u8 (a0 : Int)) rfl rfl (by kernel_rfl) (by kernel_rfl) (by kernel_rfl) (fun _ _ _ h => h) (y_pure rfl (fun w => by go_simp; first | done | (rw [IntKind.wrap_u8]; exact e3))) HQ ?_
        (try simp only [Act.put, List.setIfInBounds_toArray, List.set_cons_zero, List.set_cons_succ])
        refine h_take (i := 7) (d := 32) (v := .pointer (some ⟨p, 0, none⟩)) rfl rfl (by kernel_rfl) (by kernel_rfl) (by kernel_rfl) (fun _ _ _ h => h) (y_pure rfl (fun w => by go_simp)) HQ ?_
        (try simp only [Act.put, List.setIfInBounds_toArray, List.set_cons_zero, List.set_cons_succ])
        refine h_take (i := 8) (d := 33) (v := .pointer (some ⟨p, 0, none⟩)) rfl rfl (by kernel_rfl) (by kernel_rfl) (by kernel_rfl) (fun _ _ _ h => h) (y_pure rfl (fun w => by go_simp)) HQ ?_
        (try simp only [Act.put, List.setIfInBounds_toArray, List.set_cons_zero, List.set_cons_succ])
        refine h_take (i := 9) (d := 34) (v := .pointer (some ⟨p, 3, none⟩)) rfl rfl (by kernel_rfl) (by kernel_rfl) (by kernel_rfl) (fun _ _ _ h => h) (y_pure rfl (fun w => by go_simp)) HQ ?_
        (try simp only [Act.put, List.setIfInBounds_toArray, List.set_cons_zero, List.set_cons_succ])
        refine h_take (i := 10) (d := 35) (v := .int .i64 (s.ad : Int)) rfl rfl (by kernel_rfl) (by kernel_rfl) (by kernel_rfl) (fun _ _ _ h => h) (y_get (g := p) (off := 3) rfl rfl oneInt .z (Pt.r_ad) rfl) HQ ?_
        (try simp only [Act.put, List.setIfInBounds_toArray, List.set_cons_zero, List.set_cons_succ])
        refine h_take (i := 11) (d := 36) (v := .int .i64 (a1 : Int)) rfl rfl (by kernel_rfl) (by kernel_rfl) (by kernel_rfl) (fun _ _ _ h => h) (y_pure rfl (fun w => by go_simp; first | done | (rw [IntKind.wrap_i64]; omega))) HQ ?_
        (try simp only [Act.put, List.setIfInBounds_toArray, List.set_cons_zero, List.set_cons_succ])
        refine h_take (i := 12) (d := 37) (v := .int .u8 (a1 : Int)) rfl rfl (by kernel_rfl) (by kernel_rfl) (by kernel_rfl) (fun _ _ _ h => h) (y_pure rfl (fun w => by go_simp; first | done | (rw [IntKind.wrap_u8]; exact e2))) HQ ?_
        (try simp only [Act.put, List.setIfInBounds_toArray, List.set_cons_zero, List.set_cons_succ])
        refine h_take (i := 13) (d := 38) (v := .pointer (some ⟨p, 0, none⟩)) rfl rfl (by kernel_rfl) (by kernel_rfl) (by kernel_rfl) (fun _ _ _ h => h) (y_pure rfl (fun w => by go_simp)) HQ ?_
        (try simp only [Act.put, List.setIfInBounds_toArray, List.set_cons_zero, List.set_cons_succ])
        refine h_take (i := 14) (d := 39) (v := .pointer (some ⟨p, 0, none⟩)) rfl rfl (by kernel_rfl) (by kernel_rfl) (by kernel_rfl) (fun _ _ _ h => h) (y_pure rfl (fun w => by go_simp)) HQ ?_
        (try simp only [Act.put, List.setIfInBounds_toArray, List.set_cons_zero, List.set_cons_succ])
        refine h_take (i := 15) (d := 40) (v := .pointer (some ⟨p, 4, none⟩)) rfl rfl (by kernel_rfl) (by kernel_rfl) (by kernel_rfl) (fun _ _ _ h => h) (y_pure rfl (fun w => by go_simp)) HQ ?_
        (try simp only [Act.put, List.setIfInBounds_toArray, List.set_cons_zero, List.set_cons_succ])
        refine h_take (i := 16) (d := 41) (v := .int .i64 (s.co : Int)) rfl rfl (by kernel_rfl) (by kernel_rfl) (by kernel_rfl) (fun _ _ _ h => h) (y_get (g := p) (off := 4) rfl rfl oneInt .z (Pt.r_co) rfl) HQ ?_
        (try simp only [Act.put, List.setIfInBounds_toArray, List.set_cons_zero, List.set_cons_succ])
        refine h_take (i := 17) (d := 42) (v := .int .u8 (s.co : Int)) rfl rfl (by kernel_rfl) (by kernel_rfl) (by kernel_rfl) (fun _ _ _ h => h) (y_pure rfl (fun w => by go_simp; first | done | (rw [IntKind.wrap_u8]; exact e4))) HQ ?_
        (try simp only [Act.put, List.setIfInBounds_toArray, List.set_cons_zero, List.set_cons_succ])
        refine h_take (i := 18) (d := 43) (v := .pointer (some ⟨p, 0, none⟩)) rfl rfl (by kernel_rfl) (by kernel_rfl) (by kernel_rfl) (fun _ _ _ h => h) (y_pure rfl (fun w => by go_simp)) HQ ?_
        (try simp only [Act.put, List.setIfInBounds_toArray, List.set_cons_zero, List.set_cons_succ])
        refine h_take (i := 19) (d := 44) (v := .pointer (some ⟨p, 0, none⟩)) rfl rfl (by kernel_rfl) (by kernel_rfl) (by kernel_rfl) (fun _ _ _ h => h) (y_pure rfl (fun w => by go_simp)) HQ ?_
        (try simp only [Act.put, List.setIfInBounds_toArray, List.set_cons_zero, List.set_cons_succ])
        refine h_take (i := 20) (d := 45) (v := .pointer (some ⟨p, 5, none⟩)) rfl rfl (by kernel_rfl) (by kernel_rfl) (by kernel_rfl) (fun _ _ _ h => h) (y_pure rfl (fun w => by go_simp)) HQ ?_
        (try simp only [Act.put, List.setIfInBounds_toArray, List.set_cons_zero, List.set_cons_succ])
        refine h_take (i := 21) (d := 46) (v := .int .i64 (s.lo : Int)) rfl rfl (by kernel_rfl) (by kernel_rfl) (by kernel_rfl) (fun _ _ _ h => h) (y_get (g := p) (off := 5) rfl rfl oneInt .z (Pt.r_lo) rfl) HQ ?_
        (try simp only [Act.put, List.setIfInBounds_toArray, List.set_cons_zero, List.set_cons_succ])
        refine h_take (i := 22) (d := 47) (v := .int .u8 (s.lo : Int)) rfl rfl (by kernel_rfl) (by kernel_rfl) (by kernel_rfl) (fun _ _ _ h => h) (y_pure rfl (fun w => by go_simp; first | done | (rw [IntKind.wrap_u8]; exact e5))) HQ ?_
        (try simp only [Act.put, List.setIfInBounds_toArray, List.set_cons_zero, List.set_cons_succ])
        refine h_take (i := 23) (d := 48) (v := .int .u8 1) rfl rfl (by kernel_rfl) (by kernel_rfl) (by kernel_rfl) (fun _ _ _ h => h) (y_pure rfl (fun w => by go_simp)) HQ ?_
        (try simp only [Act.put, List.setIfInBounds_toArray, List.set_cons_zero, List.set_cons_succ])
        refine h_take (i := 24) (d := 49) (v := .pointer (some ⟨p, 0, none⟩)) rfl rfl (by kernel_rfl) (by kernel_rfl) (by kernel_rfl) (fun _ _ _ h => h) (y_pure rfl (fun w => by go_simp)) HQ ?_
        (try simp only [Act.put, List.setIfInBounds_toArray, List.set_cons_zero, List.set_cons_succ])
        refine h_take (i := 25) (d := 50) (v := .pointer (some ⟨p, 0, none⟩)) rfl rfl (by kernel_rfl) (by kernel_rfl) (by kernel_rfl) (fun _ _ _ h => h) (y_pure rfl (fun w => by go_simp)) HQ ?_
        (try simp only [Act.put, List.setIfInBounds_toArray, List.set_cons_zero, List.set_cons_succ])
        refine h_take (i := 26) (d := 51) (v := .pointer (some ⟨p, 6, none⟩)) rfl rfl (by kernel_rfl) (by kernel_rfl) (by kernel_rfl) (fun _ _ _ h => h) (y_pure rfl (fun w => by go_simp)) HQ ?_
        (try simp only [Act.put, List.setIfInBounds_toArray, List.set_cons_zero, List.set_cons_succ])
        refine h_take (i := 27) (d := 52) (v := .int .i64 (s.bu : Int)) rfl rfl (by kernel_rfl) (by kernel_rfl) (by kernel_rfl) (fun _ _ _ h => h) (y_get (g := p) (off := 6) rfl rfl oneInt .z (Pt.r_bu) rfl) HQ ?_
        (try simp only [Act.put, List.setIfInBounds_toArray, List.set_cons_zero, List.set_cons_succ])
        refine h_take (i := 28) (d := 53) (v := .int .u8 (s.bu : Int)) rfl rfl (by kernel_rfl) (by kernel_rfl) (by kernel_rfl) (fun _ _ _ h => h) (y_pure rfl (fun w => by go_simp; first | done | (rw [IntKind.wrap_u8]; exact e6))) HQ ?_
        (try simp only [Act.put, List.setIfInBounds_toArray, List.set_cons_zero, List.set_cons_succ])
        refine wpAnyH_all (rs := [29]) (by kernel_rfl) (by simp) ?_
        intro i hi
        obtain rfl := List.mem_singleton.1 hi
        refine wpOp_of rfl rfl ?_
        refine w_made (cs := [.int .u8 (a0 : Int), .int .u8 (a1 : Int), .int .u8 (s.co : Int), .int .u8 (s.lo : Int), .int .u8 1, .int .u8 (s.bu : Int)]) (e := 5) (n := 6) HM rfl (dump_made (a0 : Int) (a1 : Int) (s.co : Int) (s.lo : Int) 1 (s.bu : Int)) (by go_simp) ?_
        intro w2 g2 HM2
        refine ⟨HM2.out.forget.sub (.cons_cons _ (.cons_cons _ (.cons_cons _ (.cons_cons _ (List.sublist_append_left _ _))))), ?_⟩
        clear HQ HM
        change wpAnyH _ _ _ _ _ _ _ (Act.put _ (some 54) _) _
        (try simp only [Act.put, List.setIfInBounds_toArray, List.set_cons_zero, List.set_cons_succ])
        refine wpAnyH_all (rs := [30]) (by kernel_rfl) (by simp) ?_
        intro i hi
        obtain rfl := List.mem_singleton.1 hi
        refine wpOp_of rfl rfl ?_
        refine wp_joins (L := (g2, 5, [.int .u8 (a0 : Int), .int .u8 (a1 : Int), .int .u8 (s.co : Int), .int .u8 (s.lo : Int), .int .u8 1, .int .u8 (s.bu : Int)]) :: Rp p d c g s l) HM2 (.refl _) HR.out .z rfl rfl rfl self_src (one6 _ _ _ _ _ _) rfl (by decide) (by decide) ?_
        intro g3 c3 w3 R3 HR3 HM3
        rw [show (Value.int .u8 1) = Value.int .u8 ((1 : Nat) : Int) from rfl, (HD 1).out] at HR3
        obtain ⟨gd, cap, ex, he, hc, HO⟩ := row_open HM3.out HR3 (by decide)
        injection he with he1 he2 he3
        injection he1 with he1
        injection he1 with he1
        subst he1 he3
        have HM4 := Lib.hid ((HO.perm (List.Perm.swap _ _ _)).sub (List.sublist_cons_self _ _))
        refine ⟨HM4.out.forget, ?_⟩
        change wpAnyH _ _ _ _ _ _ _ (Act.put _ (some 55) _) _
        (try simp only [Act.put, List.setIfInBounds_toArray, List.set_cons_zero, List.set_cons_succ])
        refine h_take (i := 31) (d := 2) (v := .slice (some ⟨g3, 0, none⟩) 16433 c3) rfl rfl (by kernel_rfl) (by kernel_rfl) (by kernel_rfl) (fun _ _ _ h => h) (y_pure rfl (fun w => by go_simp)) HM4.out.forget ?_
        (try simp only [Act.put, List.setIfInBounds_toArray, List.set_cons_zero, List.set_cons_succ])
        refine wpAnyH_done (by kernel_rfl) ?_ _
        go_wp2_with fail
        go_meet
        exact ⟨g3, c3, ex, rfl, hc, HM4⟩
      case' rest =>
        clear HM HR
        obtain ⟨g3, c3, ex, rfl, hc, HM⟩ := hcut
        go_wp2_with fail
        go_ret
        refine ⟨_, _, ex, rfl, hc, ?_⟩
        rw [show s.dump = s.dumpB 1 from by unfold Pt.dump; rw [hse]; first | done | exact rfl]
        exact HM

end Go.Proofs.Ytbjghlcdbmooaaa
