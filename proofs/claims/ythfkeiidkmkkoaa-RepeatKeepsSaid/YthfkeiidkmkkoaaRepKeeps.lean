/-
  The law RepeatKeeps returns true for any bytes, and writes nothing that was there.
-/
import Derived.Test.YthfkeiidkmkkoaaRepLoads
import Derived.Deep.Cut
import Derived.Deep.CutRange
namespace Go.Proofs.Ythfkeiidkmkkoaa
open Go.RowKit

theorem and8n (f m r : Nat) (hf : f < 256) (hm : m < 256) (h : f &&& m = r) : bits .and .u8 (f : Int) (m : Int) = (r : Int) := by rw [u8_and_nat f m hf hm, h]
theorem cond_ne (k : Nat) (hk : k ≠ 0) (p : Bool) : (((cond p k 0 : Nat) : Int) != 0) = p := by
  cases p
  · rfl
  · rw [bne_iff_ne]; simp; exact hk
abbrev rLeft (left : Nat) (p : Bool) : Prop := (p = true) ↔ left ≠ 0
/-- the bits of what Load, Seek and Port say, as the law asks them -/
theorem keep_facts (a v f F G H : Nat) (p z y k : Bool) (ha : a < 256) (hv : v < 256) (hf : f < 256) (hF : rLoad a v f p = F) (hG : rSeekF a v f p = G) (hH : rPort a v f = H) (hz : Nat.beq a v = z) (hy : nZ f = y) (hk : Nat.ble 256 (Nat.add a v) = k) :
    ∃ t c : Nat, bits .and .u8 (F : Int) 193 = (t : Int) ∧ bits .and .u8 (f : Int) 193 = (t : Int) ∧ bits .and .u8 (G : Int) 1 = (c : Int) ∧ bits .and .u8 (f : Int) 1 = (c : Int) ∧
      bits .and .u8 (F : Int) 4 = ((cond p 4 0 : Nat) : Int) ∧ bits .and .u8 (G : Int) 4 = ((cond p 4 0 : Nat) : Int) ∧ bits .and .u8 (G : Int) 64 = ((cond z 64 0 : Nat) : Int) ∧ bits .and .u8 (H : Int) 64 = ((cond y 64 0 : Nat) : Int) ∧
      bits .and .u8 (F : Int) 18 = 0 ∧ bits .and .u8 (G : Int) 2 = 2 ∧ bits .and .u8 (H : Int) 16 = ((cond k 16 0 : Nat) : Int) ∧ bits .and .u8 (H : Int) 1 = ((cond k 1 0 : Nat) : Int) := by
  have F1 : F < 256 := by rw [← hF]; exact rLoad_lt _ _ _ _
  have G1 : G < 256 := by rw [← hG]; exact rSeekF_lt _ _ _ _
  have H1 : H < 256 := by rw [← hH]; exact rPort_lt _ _ _
  have sz := sub_z a v ha hv
  rw [hz] at sz
  refine ⟨_, _, and8n F 193 _ F1 (by decide) ?_, and8n f 193 _ hf (by decide) (and_193 f hf), and8n G 1 _ G1 (by decide) ?_, and8n f 1 _ hf (by decide) (and_1 f hf), and8n F 4 _ F1 (by decide) ?_, and8n G 4 _ G1 (by decide) ?_, and8n G 64 _ G1 (by decide) ?_, and8n H 64 _ H1 (by decide) ?_, and8n F 18 0 F1 (by decide) ?_, and8n G 2 2 G1 (by decide) ?_, and8n H 16 _ H1 (by decide) ?_, and8n H 1 _ H1 (by decide) ?_⟩
  · rw [← hF]; exact (and_byte _ _ _ _ _ _ _ _).2.2.2.2.2.2.1
  · rw [← hG]; exact (and_byte _ _ _ _ _ _ _ _).2.2.2.1
  · rw [← hF]; exact (and_byte _ _ _ _ _ _ _ _).2.1
  · rw [← hG]; exact (and_byte _ _ _ _ _ _ _ _).2.1
  · rw [← hG, ← sz]; exact (and_byte _ _ _ _ _ _ _ _).1
  · rw [← hH, ← hy]; exact (and_byte _ _ _ _ _ _ _ _).1
  · rw [← hF]; exact (and_byte _ _ _ _ _ _ _ _).2.2.2.2.2.1
  · rw [← hG]; exact (and_byte _ _ _ _ _ _ _ _).2.2.2.2.1
  · rw [← hH, ← hk]; exact (and_byte _ _ _ _ _ _ _ _).2.2.1
  · rw [← hH, ← hk]; exact (and_byte _ _ _ _ _ _ _ _).2.2.2.1

set_option maxRecDepth 100000 in
set_option maxHeartbeats 1600000 in
theorem keeps_any (a v f left : Nat) (ha : a < 256) (hv : v < 256) (hf : f < 256) (w : World) :
    Calls Try.prog 7 #[.agg #[.int .u8 (a : Int), .int .u8 (v : Int), .int .u8 (f : Int)], .int .u16 (left : Int)] w fun e w' => e = .returned (.bool true) ∧ Below w.heap.size w w' := by
  have HM := Lib.hid (Own.start w)
  obtain ⟨p, hp⟩ : ∃ p : Bool, Hid ((p = true) ↔ left ≠ 0) := ⟨decide (left ≠ 0), Lib.hid (by simp)⟩
  have e0 : decide (0 < left) = p := by rw [Bool.eq_iff_iff, decide_eq_true_eq, hp.out]; omega
  obtain ⟨F, hF⟩ : ∃ r, Hid (rLoad a v f p = r) := ⟨_, rfl⟩
  obtain ⟨G, hG⟩ : ∃ r, Hid (rSeekF a v f p = r) := ⟨_, rfl⟩
  obtain ⟨H, hH⟩ : ∃ r, Hid (rPort a v f = r) := ⟨_, rfl⟩
  obtain ⟨z, hz⟩ : ∃ z, Nat.beq a v = z := ⟨_, rfl⟩
  obtain ⟨y, hy⟩ : ∃ y, nZ f = y := ⟨_, rfl⟩
  obtain ⟨k, hk⟩ : ∃ k, Nat.ble 256 (Nat.add a v) = k := ⟨_, rfl⟩
  obtain ⟨t, c, h1, h2, h3, h4, h5, h6, h7, h8, h9, h10, h11, h12⟩ := keep_facts a v f F G H p z y k ha hv hf hF.out hG.out hH.out hz hy hk
  have n5 := cond_ne 4 (by decide) p
  have n7 := cond_ne 64 (by decide) z
  have n8 := cond_ne 64 (by decide) y
  have n11 := cond_ne 16 (by decide) k
  have n12 := cond_ne 1 (by decide) k
  obtain ⟨x5, q5⟩ : ∃ x : Nat, cond p 4 0 = x := ⟨_, rfl⟩
  obtain ⟨x7, q7⟩ : ∃ x : Nat, cond z 64 0 = x := ⟨_, rfl⟩
  obtain ⟨x8, q8⟩ : ∃ x : Nat, cond y 64 0 = x := ⟨_, rfl⟩
  obtain ⟨x11, q11⟩ : ∃ x : Nat, cond k 16 0 = x := ⟨_, rfl⟩
  obtain ⟨x12, q12⟩ : ∃ x : Nat, cond k 1 0 = x := ⟨_, rfl⟩
  rw [q5] at n5 h5 h6
  rw [q7] at n7 h7
  rw [q8] at n8 h8
  rw [q11] at n11 h11
  rw [q12] at n12 h12
  have ez : ((a : Int) == (v : Int)) = z := by rw [← hz]; exact eq_of a v
  have ey : ((f : Int) == 0) = y := by rw [← hy]; exact eq_of f 0
  obtain ⟨nz, hnz⟩ : ∃ nz, (!z) = nz := ⟨_, rfl⟩
  have enz : ((a : Int) != (v : Int)) = nz := by rw [← hnz, bne, ez]
  have HO : Hid (rSeekOn a v p = and p nz) := by show _ = _; unfold rSeekOn; rw [hz, hnz]
  have tg1 : Hid True := trivial
  have h1 := Lib.hid h1
  have h2 := Lib.hid h2
  have h3 := Lib.hid h3
  have h4 := Lib.hid h4
  have h5 := Lib.hid h5
  have h6 := Lib.hid h6
  have h7 := Lib.hid h7
  have h8 := Lib.hid h8
  have h9 := Lib.hid h9
  have h10 := Lib.hid h10
  have h11 := Lib.hid h11
  have h12 := Lib.hid h12
  have n5 := Lib.hid n5
  have n7 := Lib.hid n7
  have n8 := Lib.hid n8
  have n11 := Lib.hid n11
  have n12 := Lib.hid n12
  have ez := Lib.hid ez
  have ey := Lib.hid ey
  have enz := Lib.hid enz
  have HP : Hid (rLeft left p) := hp
  clear hp hz hy hk q5 q7 q8 q11 q12 hnz
  cases p
  · have HO : Hid (rSeekOn a v false = false) := HO
    go_enter Try.func7, Try.ntmps7
    go_upto_region 6 with (first
      | ((with_reducible apply own_box HM); exact rfl; (conv => lhs; whnf); exact rfl; exact rfl; (first | (clear tg1; intro w' g1 HM') | (clear tg2; intro w' g2 HM') | (clear tg3; intro w' g3 HM') | (clear tg4; intro w' g4 HM') | intro w' g' HM'); clear HM; have HM := HM'; clear HM'; all_goals skip) | ((with_reducible apply own_cell HM); exact rfl; exact rfl; (first | (with_reducible exact oneU8)); (first | with_reducible exact .z | with_reducible exact .s .z | with_reducible exact .s (.s .z) | with_reducible exact .s (.s (.s .z)) | with_reducible exact .s (.s (.s (.s .z))) | with_reducible exact .s (.s (.s (.s (.s .z))))); (focus repeat' (first | with_reducible exact .z | with_reducible apply Drop.s)); exact rfl; all_goals skip) | ((with_reducible apply own_load HM); exact rfl; exact rfl; (first | (with_reducible exact aggB)); (first | with_reducible exact .z | with_reducible exact .s .z | with_reducible exact .s (.s .z) | with_reducible exact .s (.s (.s .z)) | with_reducible exact .s (.s (.s (.s .z))) | with_reducible exact .s (.s (.s (.s (.s .z))))); (focus repeat' (first | with_reducible exact .z | with_reducible apply Drop.s)); (focus repeat' (first | with_reducible exact .z | with_reducible apply Take.s)); exact rfl; all_goals skip) | ((with_reducible apply own_store HM); exact rfl; exact rfl; (conv => lhs; whnf); exact rfl; (first | with_reducible exact .z | with_reducible exact .s .z | with_reducible exact .s (.s .z) | with_reducible exact .s (.s (.s .z)) | with_reducible exact .s (.s (.s (.s .z))) | with_reducible exact .s (.s (.s (.s (.s .z))))); (focus repeat' (first | with_reducible exact .z | with_reducible apply Over.p | with_reducible apply Over.s)); (first | with_reducible exact .z | with_reducible exact .s .z | with_reducible exact .s (.s .z) | with_reducible exact .s (.s (.s .z)) | with_reducible exact .s (.s (.s (.s .z))) | with_reducible exact .s (.s (.s (.s (.s .z))))); (first | (with_reducible exact (aggB).size) | (with_reducible exact (oneU8).size)); exact rfl; exact rfl; exact rfl; exact rfl; intro w' HM'; clear HM; have HM := HM'; clear HM'; all_goals skip)
      | (go_at_call 10; refine (repeatAlive_any _).mono ?_; rintro e w' ⟨rfl, rfl⟩)
      | (go_at_call 12; (with_reducible refine (load_at a v f left F false hf (show Hid ((false = true) ↔ left ≠ 0) from HP) hF _).mono ?_); rintro e w' ⟨rfl, rfl⟩)
      | (go_at_call 9; (with_reducible refine (seek_at a v f left G false false ha hv hf (show Hid ((false = true) ↔ left ≠ 0) from HP) hG HO _).mono ?_); rintro e w' ⟨rfl, rfl⟩)
      | (go_at_call 11; (with_reducible refine (port_at a v f H ha hv hf hH _).mono ?_); rintro e w' ⟨rfl, rfl⟩))
    have f1 := h1.out
    have f2 := h2.out
    have f3 := h3.out
    have f4 := h4.out
    go_upto_region 6 with (fail)
    (refine own_inorder HM ?_; (try simp only [Act.put, List.setIfInBounds_toArray, List.set_cons_zero, List.set_cons_succ]); repeat ((fail_if_success (with_reducible refine wpQuiet_nil ?_)); first | go_big_quiet_skip | (go_big_quiet_want; first | ((with_reducible apply quiet_cell); exact rfl; (first | (with_reducible exact oneU8)); (first | with_reducible exact .z | with_reducible exact .s .z | with_reducible exact .s (.s .z) | with_reducible exact .s (.s (.s .z)) | with_reducible exact .s (.s (.s (.s .z))) | with_reducible exact .s (.s (.s (.s (.s .z))))); (focus repeat' (first | with_reducible exact .z | with_reducible apply Drop.s)); go_big_quiet_op; go_big_quiet_on) | (go_big_quiet_op; go_big_quiet_on) | (go_big_quiet_op; refine ⟨_, fun _ _ => rfl, ?_⟩; go_big_quiet_on))))
    refine wpQuiet_nil ?_
    intro w' HM'
    clear HM
    have HM := HM'
    clear HM'
    go_upto_region 7 with (fail)
    clear f1 f2 f3 f4
    have f1 := h5.out
    have f2 := h6.out
    have f3 := h7.out
    have f4 := h8.out
    have f5 := n5.out
    have f6 := n7.out
    have f7 := n8.out
    have f8 := ez.out
    have f9 := ey.out
    (refine own_inorder HM ?_; (try simp only [Act.put, List.setIfInBounds_toArray, List.set_cons_zero, List.set_cons_succ]); repeat ((fail_if_success (with_reducible refine wpQuiet_nil ?_)); first | go_big_quiet_skip | (go_big_quiet_want; first | ((with_reducible apply quiet_cell); exact rfl; (first | (with_reducible exact oneU8)); (first | with_reducible exact .z | with_reducible exact .s .z | with_reducible exact .s (.s .z) | with_reducible exact .s (.s (.s .z)) | with_reducible exact .s (.s (.s (.s .z))) | with_reducible exact .s (.s (.s (.s (.s .z))))); (focus repeat' (first | with_reducible exact .z | with_reducible apply Drop.s)); go_big_quiet_op; go_big_quiet_on) | (go_big_quiet_op; go_big_quiet_on) | (go_big_quiet_op; refine ⟨_, fun _ _ => rfl, ?_⟩; go_big_quiet_on))))
    refine wpQuiet_nil ?_
    intro w' HM'
    clear HM
    have HM := HM'
    clear HM'
    go_upto_region 8 with (fail)
    clear f1 f2 f3 f4 f5 f6 f7 f8 f9
    have f1 := h9.out
    have f2 := h10.out
    have f3 := h11.out
    have f4 := h12.out
    have f5 := n11.out
    have f6 := n12.out
    have f7 := enz.out
    (refine own_inorder HM ?_; (try simp only [Act.put, List.setIfInBounds_toArray, List.set_cons_zero, List.set_cons_succ]); repeat ((fail_if_success (with_reducible refine wpQuiet_nil ?_)); first | go_big_quiet_skip | (go_big_quiet_want; first | ((with_reducible apply quiet_cell); exact rfl; (first | (with_reducible exact oneU8)); (first | with_reducible exact .z | with_reducible exact .s .z | with_reducible exact .s (.s .z) | with_reducible exact .s (.s (.s .z)) | with_reducible exact .s (.s (.s (.s .z))) | with_reducible exact .s (.s (.s (.s (.s .z))))); (focus repeat' (first | with_reducible exact .z | with_reducible apply Drop.s)); go_big_quiet_op; go_big_quiet_on) | (go_big_quiet_op; go_big_quiet_on) | (go_big_quiet_op; refine ⟨_, fun _ _ => rfl, ?_⟩; go_big_quiet_on))))
    refine wpQuiet_nil ?_
    intro w' HM'
    clear HM
    have HM := HM'
    clear HM'
    go_wp2
    go_ret
    exact ⟨rfl, Own.fin HM⟩
  · have HO : Hid (rSeekOn a v true = nz) := HO
    go_enter Try.func7, Try.ntmps7
    go_upto_region 6 with (first
      | ((with_reducible apply own_box HM); exact rfl; (conv => lhs; whnf); exact rfl; exact rfl; (first | (clear tg1; intro w' g1 HM') | (clear tg2; intro w' g2 HM') | (clear tg3; intro w' g3 HM') | (clear tg4; intro w' g4 HM') | intro w' g' HM'); clear HM; have HM := HM'; clear HM'; all_goals skip) | ((with_reducible apply own_cell HM); exact rfl; exact rfl; (first | (with_reducible exact oneU8)); (first | with_reducible exact .z | with_reducible exact .s .z | with_reducible exact .s (.s .z) | with_reducible exact .s (.s (.s .z)) | with_reducible exact .s (.s (.s (.s .z))) | with_reducible exact .s (.s (.s (.s (.s .z))))); (focus repeat' (first | with_reducible exact .z | with_reducible apply Drop.s)); exact rfl; all_goals skip) | ((with_reducible apply own_load HM); exact rfl; exact rfl; (first | (with_reducible exact aggB)); (first | with_reducible exact .z | with_reducible exact .s .z | with_reducible exact .s (.s .z) | with_reducible exact .s (.s (.s .z)) | with_reducible exact .s (.s (.s (.s .z))) | with_reducible exact .s (.s (.s (.s (.s .z))))); (focus repeat' (first | with_reducible exact .z | with_reducible apply Drop.s)); (focus repeat' (first | with_reducible exact .z | with_reducible apply Take.s)); exact rfl; all_goals skip) | ((with_reducible apply own_store HM); exact rfl; exact rfl; (conv => lhs; whnf); exact rfl; (first | with_reducible exact .z | with_reducible exact .s .z | with_reducible exact .s (.s .z) | with_reducible exact .s (.s (.s .z)) | with_reducible exact .s (.s (.s (.s .z))) | with_reducible exact .s (.s (.s (.s (.s .z))))); (focus repeat' (first | with_reducible exact .z | with_reducible apply Over.p | with_reducible apply Over.s)); (first | with_reducible exact .z | with_reducible exact .s .z | with_reducible exact .s (.s .z) | with_reducible exact .s (.s (.s .z)) | with_reducible exact .s (.s (.s (.s .z))) | with_reducible exact .s (.s (.s (.s (.s .z))))); (first | (with_reducible exact (aggB).size) | (with_reducible exact (oneU8).size)); exact rfl; exact rfl; exact rfl; exact rfl; intro w' HM'; clear HM; have HM := HM'; clear HM'; all_goals skip)
      | (go_at_call 10; refine (repeatAlive_any _).mono ?_; rintro e w' ⟨rfl, rfl⟩)
      | (go_at_call 12; (with_reducible refine (load_at a v f left F true hf (show Hid ((true = true) ↔ left ≠ 0) from HP) hF _).mono ?_); rintro e w' ⟨rfl, rfl⟩)
      | (go_at_call 9; (with_reducible refine (seek_at a v f left G true nz ha hv hf (show Hid ((true = true) ↔ left ≠ 0) from HP) hG HO _).mono ?_); rintro e w' ⟨rfl, rfl⟩)
      | (go_at_call 11; (with_reducible refine (port_at a v f H ha hv hf hH _).mono ?_); rintro e w' ⟨rfl, rfl⟩))
    have f1 := h1.out
    have f2 := h2.out
    have f3 := h3.out
    have f4 := h4.out
    go_upto_region 6 with (fail)
    (refine own_inorder HM ?_; (try simp only [Act.put, List.setIfInBounds_toArray, List.set_cons_zero, List.set_cons_succ]); repeat ((fail_if_success (with_reducible refine wpQuiet_nil ?_)); first | go_big_quiet_skip | (go_big_quiet_want; first | ((with_reducible apply quiet_cell); exact rfl; (first | (with_reducible exact oneU8)); (first | with_reducible exact .z | with_reducible exact .s .z | with_reducible exact .s (.s .z) | with_reducible exact .s (.s (.s .z)) | with_reducible exact .s (.s (.s (.s .z))) | with_reducible exact .s (.s (.s (.s (.s .z))))); (focus repeat' (first | with_reducible exact .z | with_reducible apply Drop.s)); go_big_quiet_op; go_big_quiet_on) | (go_big_quiet_op; go_big_quiet_on) | (go_big_quiet_op; refine ⟨_, fun _ _ => rfl, ?_⟩; go_big_quiet_on))))
    refine wpQuiet_nil ?_
    intro w' HM'
    clear HM
    have HM := HM'
    clear HM'
    go_upto_region 7 with (fail)
    clear f1 f2 f3 f4
    have f1 := h5.out
    have f2 := h6.out
    have f3 := h7.out
    have f4 := h8.out
    have f5 := n5.out
    have f6 := n7.out
    have f7 := n8.out
    have f8 := ez.out
    have f9 := ey.out
    (refine own_inorder HM ?_; (try simp only [Act.put, List.setIfInBounds_toArray, List.set_cons_zero, List.set_cons_succ]); repeat ((fail_if_success (with_reducible refine wpQuiet_nil ?_)); first | go_big_quiet_skip | (go_big_quiet_want; first | ((with_reducible apply quiet_cell); exact rfl; (first | (with_reducible exact oneU8)); (first | with_reducible exact .z | with_reducible exact .s .z | with_reducible exact .s (.s .z) | with_reducible exact .s (.s (.s .z)) | with_reducible exact .s (.s (.s (.s .z))) | with_reducible exact .s (.s (.s (.s (.s .z))))); (focus repeat' (first | with_reducible exact .z | with_reducible apply Drop.s)); go_big_quiet_op; go_big_quiet_on) | (go_big_quiet_op; go_big_quiet_on) | (go_big_quiet_op; refine ⟨_, fun _ _ => rfl, ?_⟩; go_big_quiet_on))))
    refine wpQuiet_nil ?_
    intro w' HM'
    clear HM
    have HM := HM'
    clear HM'
    go_upto_region 8 with (fail)
    clear f1 f2 f3 f4 f5 f6 f7 f8 f9
    have f1 := h9.out
    have f2 := h10.out
    have f3 := h11.out
    have f4 := h12.out
    have f5 := n11.out
    have f6 := n12.out
    have f7 := enz.out
    (refine own_inorder HM ?_; (try simp only [Act.put, List.setIfInBounds_toArray, List.set_cons_zero, List.set_cons_succ]); repeat ((fail_if_success (with_reducible refine wpQuiet_nil ?_)); first | go_big_quiet_skip | (go_big_quiet_want; first | ((with_reducible apply quiet_cell); exact rfl; (first | (with_reducible exact oneU8)); (first | with_reducible exact .z | with_reducible exact .s .z | with_reducible exact .s (.s .z) | with_reducible exact .s (.s (.s .z)) | with_reducible exact .s (.s (.s (.s .z))) | with_reducible exact .s (.s (.s (.s (.s .z))))); (focus repeat' (first | with_reducible exact .z | with_reducible apply Drop.s)); go_big_quiet_op; go_big_quiet_on) | (go_big_quiet_op; go_big_quiet_on) | (go_big_quiet_op; refine ⟨_, fun _ _ => rfl, ?_⟩; go_big_quiet_on))))
    refine wpQuiet_nil ?_
    intro w' HM'
    clear HM
    have HM := HM'
    clear HM'
    go_wp2
    go_ret
    exact ⟨rfl, Own.fin HM⟩

end Go.Proofs.Ythfkeiidkmkkoaa
