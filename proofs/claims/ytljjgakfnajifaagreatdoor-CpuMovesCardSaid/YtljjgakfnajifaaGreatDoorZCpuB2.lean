import Derived.Test.YtljjgakfnajifaaGreatDoorZCpuB1
import Derived.Deep.Cut
import Derived.Deep.CutRange
import Derived.Deep.RegionHeld3
namespace Go.Proofs.YtljjgakfnajifaaGreatDoor
open Go.RowKit
set_option maxRecDepth 100000 in
set_option maxHeartbeats 400000 in
theorem changed_at {W0 w : World} {c b n : Nat} {s : Cs} {l : Blocks} (x y z p q v : Nat) (hx : x = 0 ∨ ¬ x = 0) (hy : y < 8) (hv : v < 256) (h : Hid (Co W0 w c b s l (n))) :
    Calls Tryz.prog 87 #[.pointer (some ⟨c, 0, none⟩), .agg #[.int .i64 (x : Int), .int .i64 (y : Int), .int .i64 (z : Int), .int .i64 (p : Int), .int .i64 (q : Int)], .int .u8 (v : Int)] w fun e w' => e = .returned (.int .u8 (s.changedV x y v : Int)) ∧ Hid (Co W0 w' c b (s.changed x y v) l n) := by
  rcases hx with rfl | hx
  · have E1 : s.changedV 0 y v = tV y v (s.r.f % 2) := if_pos rfl
    have E2 : s.changed 0 y v = s.setF (tRotF y v (s.r.f % 2)) := if_pos rfl
    rw [E1, E2]
    obtain ⟨hf, hg, X, hX, hO⟩ := h.out.out
    have HF := Lib.hid hf
    have HF0 := Lib.hid hf
    have HG := Lib.hid hg
    have HX := Lib.hid hX
    have HM := Lib.hid hO
    have f1 : s.r.f < 256 := hf.r.f
    have y1 : (y : Int) % 8 = ((y : Nat) : Int) := by omega
    have h3 : tRotF y v (s.r.f % 2) < 256 := tRotF_lt _ _ _
    clear E1 E2
    clear h hf hg hX hO
    have tg1 : Hid True := trivial
    go_enter Tryz.func87, Tryz.ntmps87
    go_upto_region 2 with (first
      | ((with_reducible apply own_cell1 HM); exact rfl; exact rfl; exact dS; exact rfl)
      | ((with_reducible apply cgY HM); exact cgS) | ((with_reducible apply cpY HM); exact cpS; clear HM; intro w' HM) | ((with_reducible apply crY HM); exact crS) | ((with_reducible apply clY HM); exact clS; clear HM; intro w' HM)
      | ((with_reducible apply own_box1 HM); exact rfl; (conv => lhs; whnf); exact rfl; exact rfl; clear tg1 HM; intro w' g1 HM)
      | ((with_reducible apply own_load1 HM); exact rfl; exact rfl; exact tS; exact rfl))
    (refine own_tail 14 HM (by kernel_rfl) (by kernel_rfl) (by kernel_rfl) ?_; simp only [List.take_succ_cons, List.take_zero, List.drop_succ_cons, List.drop_zero]; (try simp only [Act.put, List.setIfInBounds_toArray, List.set_cons_zero, List.set_cons_succ]); repeat ((fail_if_success (with_reducible refine wpQuiet_nil ?_)); first | go_big_quiet_skip | (go_big_quiet_want; first | ((with_reducible apply quiet_get); exact rfl; exact wS; exact sS; exact rfl; go_big_quiet_op; go_big_quiet_on) | ((with_reducible apply quiet_load); exact rfl; (with_reducible exact aggR); exact sS; exact Cs.drop0 _ _; exact Cs.take29 _ _; go_big_quiet_op; go_big_quiet_on) | ((with_reducible apply quiet_load); exact rfl; (first | (with_reducible exact aggParts)); exact sS; exact dS; exact tS; go_big_quiet_op; go_big_quiet_on) | ((with_reducible apply quiet_cell); exact rfl; (first | (with_reducible exact oneInt)); exact sS; exact dS; go_big_quiet_op; go_big_quiet_on) | ((with_reducible apply quiet_call); exact fun w => rfl; (focus (go_simp; all_goals with_reducible rfl)); (intro wq HQ; first | (with_reducible exact (rot_at _ y v _ _ _ _ y1 hv f1 (Lib.hid rfl) (Lib.hid rfl) (Lib.hid rfl) _).mono fun _ _ ⟨he, hw⟩ => ⟨he, hw ▸ Below.refl _ _⟩)); go_big_quiet_op; go_big_quiet_on) | (go_big_quiet_op; go_big_quiet_on) | (go_big_quiet_op; refine ⟨_, fun _ _ => rfl, ?_⟩; go_big_quiet_on))))
    refine wpQuiet_nil ?_
    intro w' HM'
    clear HM; have HM := HM'; clear HM'
    go_wp2_with (first
      | ((with_reducible apply own_cell1 HM); exact rfl; exact rfl; exact dS; exact rfl)
      | ((with_reducible apply cgY HM); exact cgS) | ((with_reducible apply cpY HM); exact cpS; clear HM; intro w' HM) | ((with_reducible apply crY HM); exact crS) | ((with_reducible apply clY HM); exact clS; clear HM; intro w' HM)
      | ((with_reducible apply own_box1 HM); exact rfl; (conv => lhs; whnf); exact rfl; exact rfl; clear tg1 HM; intro w' g1 HM)
      | ((with_reducible apply own_load1 HM); exact rfl; exact rfl; exact tS; exact rfl))
    go_ret
    have hco := Co.ok (l := _ :: l) HM.out HG.out HX.out
    exact ⟨rfl, Lib.hid hco.drop⟩
  · have E1 : s.changedV x y v = tPut y v (Nat.beq x 3) := if_neg hx
    have E2 : s.changed x y v = s := if_neg hx
    rw [E1, E2]
    have x1 : ((x : Int) == 0) = false := by simp; omega
    have x2 : ((x : Int) == 3) = Nat.beq x 3 := by rw [Bool.eq_iff_iff, Nat.beq_eq]; simp; omega
    have y1 : (y : Int) % 8 = ((y : Nat) : Int) := by omega
    clear E1 E2
    obtain ⟨hf, hg, X, hX, hO⟩ := h.out.out
    have HF := Lib.hid hf
    have HF0 := Lib.hid hf
    have HG := Lib.hid hg
    have HX := Lib.hid hX
    have HM := Lib.hid hO
    clear h hf hg hX hO
    have tg1 : Hid True := trivial
    go_enter Tryz.func87, Tryz.ntmps87
    go_wp2_with (first
      | ((with_reducible apply own_cell1 HM); exact rfl; exact rfl; exact dS; exact rfl)
      | ((with_reducible apply cgY HM); exact cgS) | ((with_reducible apply cpY HM); exact cpS; clear HM; intro w' HM) | ((with_reducible apply crY HM); exact crS) | ((with_reducible apply clY HM); exact clS; clear HM; intro w' HM)
      | ((with_reducible apply own_box1 HM); exact rfl; (conv => lhs; whnf); exact rfl; exact rfl; clear tg1 HM; intro w' g1 HM)
      | ((with_reducible apply own_load1 HM); exact rfl; exact rfl; exact tS; exact rfl)
      | (go_at_call 150; (with_reducible refine (put_at _ y v _ _ y1 hv (Lib.hid rfl) _).mono ?_); rintro e w' ⟨rfl, rfl⟩))
    go_ret
    have hco := Co.ok (l := _ :: l) HM.out HG.out HX.out
    exact ⟨rfl, Lib.hid hco.drop⟩
end Go.Proofs.YtljjgakfnajifaaGreatDoor
namespace Go.Proofs.YtljjgakfnajifaaGreatDoor
open Go.RowKit
theorem Cs.changedV_lt {s : Cs} (_h : s.Fits) (x y v : Nat) (hy : y < 8) (hv : v < 256) : s.changedV x y v < 256 := by
  unfold Cs.changedV
  split
  · exact tV_lt _ _ _ hv (by omega)
  · exact tPut_lt _ _ _ hy hv
set_option maxRecDepth 100000 in
set_option maxHeartbeats 400000 in
theorem bitsAt_ask_15 {W0 w : World} {c b n : Nat} {s : Cs} {l : Blocks} (x y z p q a : Nat) (hx : x = 1) (hy : y < 8) (ha : a < 65536) (h : Hid (Co W0 w c b s l (n + 2))) :
    Calls Tryz.prog 82 #[.pointer (some ⟨c, 0, none⟩), .agg #[.int .i64 (x : Int), .int .i64 (y : Int), .int .i64 (z : Int), .int .i64 (p : Int), .int .i64 (q : Int)], .int .u16 (a : Int), .int .i64 15] w fun e w' => e = .returned (.int .i64 12) ∧ Hid (Co W0 w' c b ((s.rd a).setF (tBitF y (s.m a) s.r.f (wHigh s.r.wz))) l n) := by
  obtain ⟨hf, hg, X, hX, hO⟩ := h.out.out
  have HF := Lib.hid hf
  have HF0 := Lib.hid hf
  have HG := Lib.hid hg
  have HX := Lib.hid hX
  have HM := Lib.hid hO
  have x1 : ((x : Int) == 1) = true := by simp; omega
  have v1 : s.m a < 256 := hf.m _
  have f1 : s.r.f < 256 := hf.r.f
  have w1 : s.r.wz < 65536 := hf.r.wz
  have y1 : (y : Int) % 8 = ((y : Nat) : Int) := by omega
  obtain ⟨lo, hlo⟩ : ∃ x, Hid (s.r.wz % 256 = x) := ⟨_, rfl⟩
  obtain ⟨hi, hhi⟩ : ∃ x, Hid (wHigh s.r.wz = x) := ⟨_, rfl⟩
  have hi1 : hi < 256 := by rw [← hhi.out]; exact wHigh_lt _ w1
  have h3 : tBitF y (s.m a) s.r.f hi < 256 := tBitF_lt _ _ _ _
  rw [hhi.out]
  clear h hf hg hX hO
  have tg1 : Hid True := trivial
  have hmRead : ∀ w : World, (method 309 28 (.pointer (some ⟨b, 0, none⟩)) "Read").run Tryz.prog w = .ok (260, .pointer (some ⟨b, 0, none⟩)) w := fun _ => by kernel_rfl
  go_enter Tryz.func82, Tryz.ntmps82
  go_upto_region 4 with (first
    | ((with_reducible apply own_cell1 HM); exact rfl; exact rfl; exact dS; exact rfl)
    | ((with_reducible apply cgY HM); exact cgS) | ((with_reducible apply cpY HM); exact cpS; clear HM; intro w' HM) | ((with_reducible apply crY HM); exact crS) | ((with_reducible apply clY HM); exact clS; clear HM; intro w' HM)
    | ((with_reducible apply own_box1 HM); exact rfl; (conv => lhs; whnf); exact rfl; exact rfl; clear tg1 HM; intro w' g1 HM)
    | ((with_reducible apply own_load1 HM); exact rfl; exact rfl; exact tS; exact rfl)
    | (go_at_call 260; have hco := Lib.hid (Co.ok (l := _ :: l) HM.out HG.out HX.out); (with_reducible refine (rd_at _ ha hco).mono ?_); clear hco; rintro e w' ⟨rfl, hc⟩; clear HM HF HG HX; obtain ⟨X, HF, HG, HX, HM⟩ := hc.out.hid1; clear hc)
    | (go_at_call 141; (with_reducible refine (split_at s.r.wz hi lo w1 hhi hlo _).mono ?_); rintro e w' ⟨rfl, rfl⟩))
  (refine own_tail 11 HM (by kernel_rfl) (by kernel_rfl) (by kernel_rfl) ?_; simp only [List.take_succ_cons, List.take_zero, List.drop_succ_cons, List.drop_zero]; (try simp only [Act.put, List.setIfInBounds_toArray, List.set_cons_zero, List.set_cons_succ]); repeat ((fail_if_success (with_reducible refine wpQuiet_nil ?_)); first | go_big_quiet_skip | (go_big_quiet_want; first | ((with_reducible apply quiet_get); exact rfl; exact wS; exact sS; exact rfl; go_big_quiet_op; go_big_quiet_on) | ((with_reducible apply quiet_load); exact rfl; (with_reducible exact aggR); exact sS; exact Cs.drop0 _ _; exact Cs.take29 _ _; go_big_quiet_op; go_big_quiet_on) | ((with_reducible apply quiet_load); exact rfl; (first | (with_reducible exact aggParts)); exact sS; exact dS; exact tS; go_big_quiet_op; go_big_quiet_on) | ((with_reducible apply quiet_cell); exact rfl; (first | (with_reducible exact oneInt)); exact sS; exact dS; go_big_quiet_op; go_big_quiet_on) | ((with_reducible apply quiet_call); exact fun w => rfl; (focus (go_simp; all_goals with_reducible rfl)); (intro wq HQ; first | (with_reducible exact (bit_at _ y (s.m a) s.r.f hi _ y1 v1 f1 hi1 (Lib.hid rfl) _).mono fun _ _ ⟨he, hw⟩ => ⟨he, hw ▸ Below.refl _ _⟩)); go_big_quiet_op; go_big_quiet_on) | (go_big_quiet_op; go_big_quiet_on) | (go_big_quiet_op; refine ⟨_, fun _ _ => rfl, ?_⟩; go_big_quiet_on))))
  refine wpQuiet_nil ?_
  intro w' HM'
  clear HM; have HM := HM'; clear HM'
  go_wp2_with (first
    | ((with_reducible apply own_cell1 HM); exact rfl; exact rfl; exact dS; exact rfl)
    | ((with_reducible apply cgY HM); exact cgS) | ((with_reducible apply cpY HM); exact cpS; clear HM; intro w' HM) | ((with_reducible apply crY HM); exact crS) | ((with_reducible apply clY HM); exact clS; clear HM; intro w' HM)
    | ((with_reducible apply own_box1 HM); exact rfl; (conv => lhs; whnf); exact rfl; exact rfl; clear tg1 HM; intro w' g1 HM)
    | ((with_reducible apply own_load1 HM); exact rfl; exact rfl; exact tS; exact rfl))
  go_ret
  have hco := fun hf => Co.made (l := _ :: l) HM.out HG.out HX.out hf
  exact ⟨rfl, Lib.hid ((hco (by first | with_reducible exact HF.out | (focus repeat' (first | (with_reducible first | exact HF.out | apply ftA | apply ftF | apply ftB | apply ftC | apply ftD | apply ftE | apply ftH | apply ftL | apply ftS | apply ftP | apply ftW | apply ftI | apply ftR | apply ftM | apply ftX | apply ft1 | apply ft2 | apply ftT | apply ftY | apply ftZ | apply ftr | exact up1_lt _ | exact dn1_lt _ | exact wMove_lt _ _ | exact nByte_lt _ _ _ _ _ _ _ _ | exact Nat.mod_lt _ (by decide)) | assumption | omega | exact Nat.mod_lt _ (by decide))))).drop.less (by omega))⟩
set_option maxRecDepth 100000 in
set_option maxHeartbeats 400000 in
theorem bitsAt_do_15 {W0 w : World} {c b n : Nat} {s : Cs} {l : Blocks} (x y z p q a : Nat) (hx : ¬ x = 1) (hy : y < 8) (ha : a < 65536) (h : Hid (Co W0 w c b s l (n + 2))) :
    Calls Tryz.prog 82 #[.pointer (some ⟨c, 0, none⟩), .agg #[.int .i64 (x : Int), .int .i64 (y : Int), .int .i64 (z : Int), .int .i64 (p : Int), .int .i64 (q : Int)], .int .u16 (a : Int), .int .i64 15] w fun e w' => e = .returned (.int .i64 15) ∧ Hid (Co W0 w' c b ((((s.rd a).changed x y (s.m a)).wr a (s.changedV x y (s.m a))).setOwn z (s.changedV x y (s.m a))) l n) := by
  obtain ⟨hf, hg, X, hX, hO⟩ := h.out.out
  have HF := Lib.hid hf
  have HF0 := Lib.hid hf
  have HG := Lib.hid hg
  have HX := Lib.hid hX
  have HM := Lib.hid hO
  have x1 : ((x : Int) == 1) = false := by simp; omega
  have v1 : s.m a < 256 := hf.m _
  have V1 : (s.rd a).changedV x y (s.m a) < 256 := Cs.changedV_lt (s := s.rd a) ⟨hf.r, hf.px, hf.m⟩ x y _ hy v1
  clear h hf hg hX hO
  have tg1 : Hid True := trivial
  have hmRead : ∀ w : World, (method 309 28 (.pointer (some ⟨b, 0, none⟩)) "Read").run Tryz.prog w = .ok (260, .pointer (some ⟨b, 0, none⟩)) w := fun _ => by kernel_rfl
  have hmWrite : ∀ w : World, (method 309 28 (.pointer (some ⟨b, 0, none⟩)) "Write").run Tryz.prog w = .ok (261, .pointer (some ⟨b, 0, none⟩)) w := fun _ => by kernel_rfl
  go_enter Tryz.func82, Tryz.ntmps82
  go_wp2_with (first
    | ((with_reducible apply own_cell1 HM); exact rfl; exact rfl; exact dS; exact rfl)
    | ((with_reducible apply cgY HM); exact cgS) | ((with_reducible apply cpY HM); exact cpS; clear HM; intro w' HM) | ((with_reducible apply crY HM); exact crS) | ((with_reducible apply clY HM); exact clS; clear HM; intro w' HM)
    | ((with_reducible apply own_box1 HM); exact rfl; (conv => lhs; whnf); exact rfl; exact rfl; clear tg1 HM; intro w' g1 HM)
    | ((with_reducible apply own_load1 HM); exact rfl; exact rfl; exact tS; exact rfl)
    | (go_at_call 260; have hco := Lib.hid (Co.ok (l := _ :: l) HM.out HG.out HX.out); (with_reducible refine (rd_at _ ha hco).mono ?_); clear hco; rintro e w' ⟨rfl, hc⟩; clear HM HF HG HX; obtain ⟨X, HF, HG, HX, HM⟩ := hc.out.hid1; clear hc)
    | (go_at_call 87; have hco := Lib.hid (Co.ok (l := _ :: l) HM.out HG.out HX.out); (with_reducible refine (changed_at x y z p q _ (Classical.em _) hy v1 hco).mono ?_); clear hco; rintro e w' ⟨rfl, hc⟩; clear HM HF HG HX; obtain ⟨X, HF, HG, HX, HM⟩ := hc.out.hid1; clear hc)
    | (go_at_call 261; have hco := Lib.hid (Co.ok (l := _ :: l) HM.out HG.out HX.out); (with_reducible refine (wr_at _ _ ha V1 hco).mono ?_); clear hco; rintro e w' ⟨rfl, hc⟩; clear HM HF HG HX; obtain ⟨X, HF, HG, HX, HM⟩ := hc.out.hid1; clear hc)
    | (go_at_call 142; have hco := Lib.hid (Co.ok (l := _ :: l) HM.out HG.out HX.out); (with_reducible refine (csetOwn_at _ _ V1 hco).mono ?_); clear hco; rintro e w' ⟨rfl, hc⟩; clear HM HF HG HX; obtain ⟨X, HF, HG, HX, HM⟩ := hc.out.hid1; clear hc))
  go_ret
  have hco := Co.ok (l := _ :: l) HM.out HG.out HX.out
  exact ⟨rfl, Lib.hid hco.drop⟩
theorem bitsAt_15 {W0 w : World} {c b n : Nat} {s : Cs} {l : Blocks} (x y z p q a : Nat) (hy : y < 8) (ha : a < 65536) (h : Hid (Co W0 w c b s l (n + 2))) :
    Calls Tryz.prog 82 #[.pointer (some ⟨c, 0, none⟩), .agg #[.int .i64 (x : Int), .int .i64 (y : Int), .int .i64 (z : Int), .int .i64 (p : Int), .int .i64 (q : Int)], .int .u16 (a : Int), .int .i64 15] w fun e w' => e = .returned (.int .i64 ((Cs.bitsC x 15 : Nat) : Int)) ∧ Hid (Co W0 w' c b (s.bitsAt x y z a) l n) := by
  unfold Cs.bitsC Cs.bitsAt
  by_cases hx : x = 1
  · rw [if_pos hx, if_pos hx]; exact bitsAt_ask_15 x y z p q a hx hy ha h
  · rw [if_neg hx, if_neg hx]; exact bitsAt_do_15 x y z p q a hx hy ha h
set_option maxRecDepth 100000 in
set_option maxHeartbeats 400000 in
theorem bitsAt_ask_19 {W0 w : World} {c b n : Nat} {s : Cs} {l : Blocks} (x y z p q a : Nat) (hx : x = 1) (hy : y < 8) (ha : a < 65536) (h : Hid (Co W0 w c b s l (n + 2))) :
    Calls Tryz.prog 82 #[.pointer (some ⟨c, 0, none⟩), .agg #[.int .i64 (x : Int), .int .i64 (y : Int), .int .i64 (z : Int), .int .i64 (p : Int), .int .i64 (q : Int)], .int .u16 (a : Int), .int .i64 19] w fun e w' => e = .returned (.int .i64 16) ∧ Hid (Co W0 w' c b ((s.rd a).setF (tBitF y (s.m a) s.r.f (wHigh s.r.wz))) l n) := by
  obtain ⟨hf, hg, X, hX, hO⟩ := h.out.out
  have HF := Lib.hid hf
  have HF0 := Lib.hid hf
  have HG := Lib.hid hg
  have HX := Lib.hid hX
  have HM := Lib.hid hO
  have x1 : ((x : Int) == 1) = true := by simp; omega
  have v1 : s.m a < 256 := hf.m _
  have f1 : s.r.f < 256 := hf.r.f
  have w1 : s.r.wz < 65536 := hf.r.wz
  have y1 : (y : Int) % 8 = ((y : Nat) : Int) := by omega
  obtain ⟨lo, hlo⟩ : ∃ x, Hid (s.r.wz % 256 = x) := ⟨_, rfl⟩
  obtain ⟨hi, hhi⟩ : ∃ x, Hid (wHigh s.r.wz = x) := ⟨_, rfl⟩
  have hi1 : hi < 256 := by rw [← hhi.out]; exact wHigh_lt _ w1
  have h3 : tBitF y (s.m a) s.r.f hi < 256 := tBitF_lt _ _ _ _
  rw [hhi.out]
  clear h hf hg hX hO
  have tg1 : Hid True := trivial
  have hmRead : ∀ w : World, (method 309 28 (.pointer (some ⟨b, 0, none⟩)) "Read").run Tryz.prog w = .ok (260, .pointer (some ⟨b, 0, none⟩)) w := fun _ => by kernel_rfl
  go_enter Tryz.func82, Tryz.ntmps82
  go_upto_region 4 with (first
    | ((with_reducible apply own_cell1 HM); exact rfl; exact rfl; exact dS; exact rfl)
    | ((with_reducible apply cgY HM); exact cgS) | ((with_reducible apply cpY HM); exact cpS; clear HM; intro w' HM) | ((with_reducible apply crY HM); exact crS) | ((with_reducible apply clY HM); exact clS; clear HM; intro w' HM)
    | ((with_reducible apply own_box1 HM); exact rfl; (conv => lhs; whnf); exact rfl; exact rfl; clear tg1 HM; intro w' g1 HM)
    | ((with_reducible apply own_load1 HM); exact rfl; exact rfl; exact tS; exact rfl)
    | (go_at_call 260; have hco := Lib.hid (Co.ok (l := _ :: l) HM.out HG.out HX.out); (with_reducible refine (rd_at _ ha hco).mono ?_); clear hco; rintro e w' ⟨rfl, hc⟩; clear HM HF HG HX; obtain ⟨X, HF, HG, HX, HM⟩ := hc.out.hid1; clear hc)
    | (go_at_call 141; (with_reducible refine (split_at s.r.wz hi lo w1 hhi hlo _).mono ?_); rintro e w' ⟨rfl, rfl⟩))
  (refine own_tail 11 HM (by kernel_rfl) (by kernel_rfl) (by kernel_rfl) ?_; simp only [List.take_succ_cons, List.take_zero, List.drop_succ_cons, List.drop_zero]; (try simp only [Act.put, List.setIfInBounds_toArray, List.set_cons_zero, List.set_cons_succ]); repeat ((fail_if_success (with_reducible refine wpQuiet_nil ?_)); first | go_big_quiet_skip | (go_big_quiet_want; first | ((with_reducible apply quiet_get); exact rfl; exact wS; exact sS; exact rfl; go_big_quiet_op; go_big_quiet_on) | ((with_reducible apply quiet_load); exact rfl; (with_reducible exact aggR); exact sS; exact Cs.drop0 _ _; exact Cs.take29 _ _; go_big_quiet_op; go_big_quiet_on) | ((with_reducible apply quiet_load); exact rfl; (first | (with_reducible exact aggParts)); exact sS; exact dS; exact tS; go_big_quiet_op; go_big_quiet_on) | ((with_reducible apply quiet_cell); exact rfl; (first | (with_reducible exact oneInt)); exact sS; exact dS; go_big_quiet_op; go_big_quiet_on) | ((with_reducible apply quiet_call); exact fun w => rfl; (focus (go_simp; all_goals with_reducible rfl)); (intro wq HQ; first | (with_reducible exact (bit_at _ y (s.m a) s.r.f hi _ y1 v1 f1 hi1 (Lib.hid rfl) _).mono fun _ _ ⟨he, hw⟩ => ⟨he, hw ▸ Below.refl _ _⟩)); go_big_quiet_op; go_big_quiet_on) | (go_big_quiet_op; go_big_quiet_on) | (go_big_quiet_op; refine ⟨_, fun _ _ => rfl, ?_⟩; go_big_quiet_on))))
  refine wpQuiet_nil ?_
  intro w' HM'
  clear HM; have HM := HM'; clear HM'
  go_wp2_with (first
    | ((with_reducible apply own_cell1 HM); exact rfl; exact rfl; exact dS; exact rfl)
    | ((with_reducible apply cgY HM); exact cgS) | ((with_reducible apply cpY HM); exact cpS; clear HM; intro w' HM) | ((with_reducible apply crY HM); exact crS) | ((with_reducible apply clY HM); exact clS; clear HM; intro w' HM)
    | ((with_reducible apply own_box1 HM); exact rfl; (conv => lhs; whnf); exact rfl; exact rfl; clear tg1 HM; intro w' g1 HM)
    | ((with_reducible apply own_load1 HM); exact rfl; exact rfl; exact tS; exact rfl))
  go_ret
  have hco := fun hf => Co.made (l := _ :: l) HM.out HG.out HX.out hf
  exact ⟨rfl, Lib.hid ((hco (by first | with_reducible exact HF.out | (focus repeat' (first | (with_reducible first | exact HF.out | apply ftA | apply ftF | apply ftB | apply ftC | apply ftD | apply ftE | apply ftH | apply ftL | apply ftS | apply ftP | apply ftW | apply ftI | apply ftR | apply ftM | apply ftX | apply ft1 | apply ft2 | apply ftT | apply ftY | apply ftZ | apply ftr | exact up1_lt _ | exact dn1_lt _ | exact wMove_lt _ _ | exact nByte_lt _ _ _ _ _ _ _ _ | exact Nat.mod_lt _ (by decide)) | assumption | omega | exact Nat.mod_lt _ (by decide))))).drop.less (by omega))⟩
set_option maxRecDepth 100000 in
set_option maxHeartbeats 400000 in
theorem bitsAt_do_19 {W0 w : World} {c b n : Nat} {s : Cs} {l : Blocks} (x y z p q a : Nat) (hx : ¬ x = 1) (hy : y < 8) (ha : a < 65536) (h : Hid (Co W0 w c b s l (n + 2))) :
    Calls Tryz.prog 82 #[.pointer (some ⟨c, 0, none⟩), .agg #[.int .i64 (x : Int), .int .i64 (y : Int), .int .i64 (z : Int), .int .i64 (p : Int), .int .i64 (q : Int)], .int .u16 (a : Int), .int .i64 19] w fun e w' => e = .returned (.int .i64 19) ∧ Hid (Co W0 w' c b ((((s.rd a).changed x y (s.m a)).wr a (s.changedV x y (s.m a))).setOwn z (s.changedV x y (s.m a))) l n) := by
  obtain ⟨hf, hg, X, hX, hO⟩ := h.out.out
  have HF := Lib.hid hf
  have HF0 := Lib.hid hf
  have HG := Lib.hid hg
  have HX := Lib.hid hX
  have HM := Lib.hid hO
  have x1 : ((x : Int) == 1) = false := by simp; omega
  have v1 : s.m a < 256 := hf.m _
  have V1 : (s.rd a).changedV x y (s.m a) < 256 := Cs.changedV_lt (s := s.rd a) ⟨hf.r, hf.px, hf.m⟩ x y _ hy v1
  clear h hf hg hX hO
  have tg1 : Hid True := trivial
  have hmRead : ∀ w : World, (method 309 28 (.pointer (some ⟨b, 0, none⟩)) "Read").run Tryz.prog w = .ok (260, .pointer (some ⟨b, 0, none⟩)) w := fun _ => by kernel_rfl
  have hmWrite : ∀ w : World, (method 309 28 (.pointer (some ⟨b, 0, none⟩)) "Write").run Tryz.prog w = .ok (261, .pointer (some ⟨b, 0, none⟩)) w := fun _ => by kernel_rfl
  go_enter Tryz.func82, Tryz.ntmps82
  go_wp2_with (first
    | ((with_reducible apply own_cell1 HM); exact rfl; exact rfl; exact dS; exact rfl)
    | ((with_reducible apply cgY HM); exact cgS) | ((with_reducible apply cpY HM); exact cpS; clear HM; intro w' HM) | ((with_reducible apply crY HM); exact crS) | ((with_reducible apply clY HM); exact clS; clear HM; intro w' HM)
    | ((with_reducible apply own_box1 HM); exact rfl; (conv => lhs; whnf); exact rfl; exact rfl; clear tg1 HM; intro w' g1 HM)
    | ((with_reducible apply own_load1 HM); exact rfl; exact rfl; exact tS; exact rfl)
    | (go_at_call 260; have hco := Lib.hid (Co.ok (l := _ :: l) HM.out HG.out HX.out); (with_reducible refine (rd_at _ ha hco).mono ?_); clear hco; rintro e w' ⟨rfl, hc⟩; clear HM HF HG HX; obtain ⟨X, HF, HG, HX, HM⟩ := hc.out.hid1; clear hc)
    | (go_at_call 87; have hco := Lib.hid (Co.ok (l := _ :: l) HM.out HG.out HX.out); (with_reducible refine (changed_at x y z p q _ (Classical.em _) hy v1 hco).mono ?_); clear hco; rintro e w' ⟨rfl, hc⟩; clear HM HF HG HX; obtain ⟨X, HF, HG, HX, HM⟩ := hc.out.hid1; clear hc)
    | (go_at_call 261; have hco := Lib.hid (Co.ok (l := _ :: l) HM.out HG.out HX.out); (with_reducible refine (wr_at _ _ ha V1 hco).mono ?_); clear hco; rintro e w' ⟨rfl, hc⟩; clear HM HF HG HX; obtain ⟨X, HF, HG, HX, HM⟩ := hc.out.hid1; clear hc)
    | (go_at_call 142; have hco := Lib.hid (Co.ok (l := _ :: l) HM.out HG.out HX.out); (with_reducible refine (csetOwn_at _ _ V1 hco).mono ?_); clear hco; rintro e w' ⟨rfl, hc⟩; clear HM HF HG HX; obtain ⟨X, HF, HG, HX, HM⟩ := hc.out.hid1; clear hc))
  go_ret
  have hco := Co.ok (l := _ :: l) HM.out HG.out HX.out
  exact ⟨rfl, Lib.hid hco.drop⟩
theorem bitsAt_19 {W0 w : World} {c b n : Nat} {s : Cs} {l : Blocks} (x y z p q a : Nat) (hy : y < 8) (ha : a < 65536) (h : Hid (Co W0 w c b s l (n + 2))) :
    Calls Tryz.prog 82 #[.pointer (some ⟨c, 0, none⟩), .agg #[.int .i64 (x : Int), .int .i64 (y : Int), .int .i64 (z : Int), .int .i64 (p : Int), .int .i64 (q : Int)], .int .u16 (a : Int), .int .i64 19] w fun e w' => e = .returned (.int .i64 ((Cs.bitsC x 19 : Nat) : Int)) ∧ Hid (Co W0 w' c b (s.bitsAt x y z a) l n) := by
  unfold Cs.bitsC Cs.bitsAt
  by_cases hx : x = 1
  · rw [if_pos hx, if_pos hx]; exact bitsAt_ask_19 x y z p q a hx hy ha h
  · rw [if_neg hx, if_neg hx]; exact bitsAt_do_19 x y z p q a hx hy ha h
end Go.Proofs.YtljjgakfnajifaaGreatDoor
namespace Go.Proofs.YtljjgakfnajifaaGreatDoor
open Go.RowKit
theorem parts_of (o x y z p q : Nat) (ho : o < 256) (hx : Hid (Cs.xOf o = x)) (hy : Hid (Cs.yOf o = y)) (hz : Hid (Cs.zOf o = z)) (hp : Hid (y / 2 = p)) (hq : Hid (y % 2 = q)) (w : World) : Calls Tryz.prog 46 #[.int .u8 (o : Int)] w fun e w' => e = .returned (.agg #[.int .i64 (x : Int), .int .i64 (y : Int), .int .i64 (z : Int), .int .i64 (p : Int), .int .i64 (q : Int)]) ∧ Below w.heap.size w w' := by
  refine parts_at o x y z p q ho hx hy hz ?_ ?_ w
  · have h := hp.out; rw [← hy.out] at h; exact Lib.hid h
  · have h := hq.out; rw [← hy.out] at h; exact Lib.hid h
set_option maxRecDepth 100000 in
set_option maxHeartbeats 800000 in
theorem onBits_far {W0 w : World} {c b n : Nat} {s : Cs} {l : Blocks} (hp0 : ¬ s.px = 0) (h : Hid (Co W0 w c b s l (n + 4))) :
    Calls Tryz.prog 47 #[.pointer (some ⟨c, 0, none⟩)] w fun e w' => e = .returned (.int .i64 ((Cs.bitsC (Cs.xOf s.point.nextV) 19 : Nat) : Int)) ∧ Hid (Co W0 w' c b (s.point.next.bitsAt (Cs.xOf s.point.nextV) (Cs.yOf s.point.nextV) (Cs.zOf s.point.nextV) s.pointV) l n) := by
  obtain ⟨hf, hg, X, hX, hO⟩ := h.out.out
  have HF := Lib.hid hf
  have HF0 := Lib.hid hf
  have HG := Lib.hid hg
  have HX := Lib.hid hX
  have HM := Lib.hid hO
  have HP : s.pointV < 65536 := by unfold Cs.pointV; rw [if_neg hp0]; exact wMove_lt _ _
  have px0 : ((s.px : Int) != 0) = true := by simp; omega
  have m0 : s.point.nextV < 256 := by unfold Cs.point; rw [if_neg hp0]; exact hf.m _
  obtain ⟨x, hx⟩ : ∃ x, Hid (Cs.xOf s.point.nextV = x) := ⟨_, rfl⟩
  obtain ⟨y, hy⟩ : ∃ y, Hid (Cs.yOf s.point.nextV = y) := ⟨_, rfl⟩
  obtain ⟨z, hz⟩ : ∃ z, Hid (Cs.zOf s.point.nextV = z) := ⟨_, rfl⟩
  obtain ⟨p, hp⟩ : ∃ p, Hid (y / 2 = p) := ⟨_, rfl⟩
  obtain ⟨q, hq⟩ : ∃ q, Hid (y % 2 = q) := ⟨_, rfl⟩
  have x8 : x < 4 := by rw [← hx.out]; show s.point.nextV / 64 < 4; omega
  have y8 : y < 8 := by rw [← hy.out]; exact Nat.mod_lt _ (by decide)
  have z8 : z < 8 := by rw [← hz.out]; exact Nat.mod_lt _ (by decide)
  have o8 := m0
  rw [hx.out, hy.out, hz.out]
  clear hp0 h hf hg hX hO
  go_enter Tryz.func47, Tryz.ntmps47
  go_wp2_with (first
    | ((with_reducible apply cgY HM); exact cgS) | ((with_reducible apply cpY HM); exact cpS; clear HM; intro w' HM) | ((with_reducible apply crY HM); exact crS) | ((with_reducible apply clY HM); exact clS; clear HM; intro w' HM)
    | (go_at_call 81; have hco := Lib.hid (Co.ok HM.out HG.out HX.out); (with_reducible refine (pointed_at hco).mono ?_); clear hco; rintro e w' ⟨rfl, hc⟩; clear HM HF HG HX; obtain ⟨X, HF, HG, HX, HM⟩ := hc.out.hid; clear hc)
    | (go_at_call 78; have hco := Lib.hid (Co.ok HM.out HG.out HX.out); (with_reducible refine (next_at hco).mono ?_); clear hco; rintro e w' ⟨rfl, hc⟩; clear HM HF HG HX; obtain ⟨X, HF, HG, HX, HM⟩ := hc.out.hid; clear hc)
    | (go_at_call 46; (with_reducible refine (parts_of s.point.nextV x y z p q o8 hx hy hz hp hq _).mono ?_); rintro e w' ⟨rfl, hb⟩; replace HM := Lib.hid (HM.out.call hb); clear hb)
    | (go_at_call 82; have hco := Lib.hid (Co.ok HM.out HG.out HX.out); (with_reducible refine (bitsAt_19 x y z p q _ y8 HP hco).mono ?_); clear hco; rintro e w' ⟨rfl, hc⟩; clear HM HF HG HX; obtain ⟨X, HF, HG, HX, HM⟩ := hc.out.hid; clear hc))
  go_ret
  have hco := Co.ok HM.out HG.out HX.out
  exact ⟨rfl, Lib.hid (hco.less (by omega))⟩
set_option maxRecDepth 100000 in
set_option maxHeartbeats 800000 in
theorem onBits_mem {W0 w : World} {c b n : Nat} {s : Cs} {l : Blocks} (hp0 : s.px = 0) (x y z : Nat) (hx : Hid (Cs.xOf s.nextV = x)) (hy : Hid (Cs.yOf s.nextV = y)) (hz : Hid (Cs.zOf s.nextV = z)) (h6 : z = 6) (h : Hid (Co W0 w c b s l (n + 4))) :
    Calls Tryz.prog 47 #[.pointer (some ⟨c, 0, none⟩)] w fun e w' => e = .returned (.int .i64 ((Cs.bitsC x 15 : Nat) : Int)) ∧ Hid (Co W0 w' c b (s.fetch.bitsAt x y z (s.fetch.pair 2)) l n) := by
  obtain ⟨hf, hg, X, hX, hO⟩ := h.out.out
  have HF := Lib.hid hf
  have HF0 := Lib.hid hf
  have HG := Lib.hid hg
  have HX := Lib.hid hX
  have HM := Lib.hid hO
  have px0 : ((s.px : Int) != 0) = false := by simp; omega
  obtain ⟨p, hp⟩ : ∃ p, Hid (y / 2 = p) := ⟨_, rfl⟩
  obtain ⟨q, hq⟩ : ∃ q, Hid (y % 2 = q) := ⟨_, rfl⟩
  have y8 : y < 8 := by rw [← hy.out]; exact Nat.mod_lt _ (by decide)
  have o8 : s.nextV < 256 := hf.m _
  have hff : s.fetch.Fits := Cs.tick_fits (Cs.next_fits hf)
  have z6 : ((z : Int) == 6) = true := by rw [h6]; rfl
  have p2 : s.fetch.pair 2 < 65536 := Cs.pair_lt hff _
  clear hff hp0 h6 h hf hg hX hO
  have tg1 : Hid True := trivial
  go_enter Tryz.func47, Tryz.ntmps47
  go_upto_region 5 with (first
    | ((with_reducible apply cgY HM); exact cgS) | ((with_reducible apply cpY HM); exact cpS; clear HM; intro w' HM) | ((with_reducible apply crY HM); exact crS) | ((with_reducible apply clY HM); exact clS; clear HM; intro w' HM)
    | (go_at_call 44; have hco := Lib.hid (Co.ok HM.out HG.out HX.out); (with_reducible refine (fetch_at hco).mono ?_); clear hco; rintro e w' ⟨rfl, hc⟩; clear HM HF HG HX; obtain ⟨X, HF, HG, HX, HM⟩ := hc.out.hid; clear hc)
    | (go_at_call 46; (with_reducible refine (parts_of s.nextV x y z p q o8 hx hy hz hp hq _).mono ?_); rintro e w' ⟨rfl, hb⟩; replace HM := Lib.hid (HM.out.call hb); clear hb)
    | ((with_reducible apply own_box HM); exact rfl; (conv => lhs; whnf); exact rfl; exact rfl; (first | (clear tg1 HM; intro w' g1 HM) | (clear tg2 HM; intro w' g2 HM) | (clear tg3 HM; intro w' g3 HM) | (clear tg4 HM; intro w' g4 HM) | (clear HM; intro w' g' HM))) | ((with_reducible apply own_alloc HM); exact rfl; (first | (with_reducible exact zeroParts)); exact rfl; (first | (clear tg1 HM; intro w' g1 HM) | (clear tg2 HM; intro w' g2 HM) | (clear tg3 HM; intro w' g3 HM) | (clear tg4 HM; intro w' g4 HM) | (clear HM; intro w' g' HM))) | ((with_reducible apply own_cell HM); exact rfl; exact rfl; (first | (with_reducible exact oneInt)); exact sS; exact dS; exact rfl) | ((with_reducible apply own_load HM); exact rfl; exact rfl; (first | (with_reducible exact aggParts)); exact sS; exact dS; exact tS; exact rfl) | ((with_reducible apply own_store HM); exact rfl; exact rfl; (conv => lhs; whnf); exact rfl; exact sS; exact vS; exact sS; (first | (with_reducible exact (aggParts).size) | (with_reducible exact (oneInt).size)); exact rfl; exact rfl; exact rfl; exact rfl; clear HM; intro w' HM))
  have HM' := Lib.hid (HM.out.perm (List.Perm.swap _ _ _))
  clear HM; have HM := HM'; clear HM'
  go_upto_region 6 with (first
    | ((with_reducible apply own_cell1 HM); exact rfl; exact rfl; exact dS; exact rfl)
    | ((with_reducible apply cgY HM); exact cgS) | ((with_reducible apply cpY HM); exact cpS; clear HM; intro w' HM) | ((with_reducible apply crY HM); exact crS) | ((with_reducible apply clY HM); exact clS; clear HM; intro w' HM)
    | ((with_reducible apply own_box1 HM); exact rfl; (conv => lhs; whnf); exact rfl; exact rfl; clear tg1 HM; intro w' g1 HM)
    | ((with_reducible apply own_load1 HM); exact rfl; exact rfl; exact tS; exact rfl))
  (refine own_tail 4 HM (by kernel_rfl) (by kernel_rfl) (by kernel_rfl) ?_; simp only [List.take_succ_cons, List.take_zero, List.drop_succ_cons, List.drop_zero]; (try simp only [Act.put, List.setIfInBounds_toArray, List.set_cons_zero, List.set_cons_succ]); repeat ((fail_if_success (with_reducible refine wpQuiet_nil ?_)); first | go_big_quiet_skip | (go_big_quiet_want; first | ((with_reducible apply quiet_get); exact rfl; exact wS; exact sS; exact rfl; go_big_quiet_op; go_big_quiet_on) | ((with_reducible apply quiet_load); exact rfl; (with_reducible exact aggR); exact sS; exact Cs.drop0 _ _; exact Cs.take29 _ _; go_big_quiet_op; go_big_quiet_on) | ((with_reducible apply quiet_load); exact rfl; (first | (with_reducible exact aggParts)); exact sS; exact dS; exact tS; go_big_quiet_op; go_big_quiet_on) | ((with_reducible apply quiet_cell); exact rfl; (first | (with_reducible exact oneInt)); exact sS; exact dS; go_big_quiet_op; go_big_quiet_on) | ((with_reducible apply quiet_call); exact fun w => rfl; (focus (go_simp; all_goals with_reducible rfl)); (intro wq HQ; first | (with_reducible exact cpair_q .z HQ HF.out _)); go_big_quiet_op; go_big_quiet_on) | (go_big_quiet_op; go_big_quiet_on) | (go_big_quiet_op; refine ⟨_, fun _ _ => rfl, ?_⟩; go_big_quiet_on))))
  refine wpQuiet_nil ?_
  intro w' HM'
  clear HM; have HM := HM'; clear HM'
  go_wp2_with (first
    | ((with_reducible apply own_cell1 HM); exact rfl; exact rfl; exact dS; exact rfl)
    | ((with_reducible apply cgY HM); exact cgS) | ((with_reducible apply cpY HM); exact cpS; clear HM; intro w' HM) | ((with_reducible apply crY HM); exact crS) | ((with_reducible apply clY HM); exact clS; clear HM; intro w' HM)
    | ((with_reducible apply own_box1 HM); exact rfl; (conv => lhs; whnf); exact rfl; exact rfl; clear tg1 HM; intro w' g1 HM)
    | ((with_reducible apply own_load1 HM); exact rfl; exact rfl; exact tS; exact rfl)
    | (go_at_call 82; have hco := Lib.hid (Co.ok (l := _ :: l) HM.out HG.out HX.out); (with_reducible refine (bitsAt_15 x y z p q _ y8 p2 hco).mono ?_); clear hco; rintro e w' ⟨rfl, hc⟩; clear HM HF HG HX; obtain ⟨X, HF, HG, HX, HM⟩ := hc.out.hid1; clear hc))
  go_ret
  have hco := Co.ok (l := _ :: l) HM.out HG.out HX.out
  exact ⟨rfl, Lib.hid (hco.drop.less (by omega))⟩
set_option maxRecDepth 100000 in
set_option maxHeartbeats 800000 in
theorem onBits_ask {W0 w : World} {c b n : Nat} {s : Cs} {l : Blocks} (hp0 : s.px = 0) (x y z : Nat) (hx : Hid (Cs.xOf s.nextV = x)) (hy : Hid (Cs.yOf s.nextV = y)) (hz : Hid (Cs.zOf s.nextV = z)) (h6 : ¬ z = 6) (h1 : x = 1) (h : Hid (Co W0 w c b s l (n + 4))) :
    Calls Tryz.prog 47 #[.pointer (some ⟨c, 0, none⟩)] w fun e w' => e = .returned (.int .i64 8) ∧ Hid (Co W0 w' c b (s.fetch.setF (tBitF y (s.fetch.one z) s.fetch.r.f (s.fetch.one z))) l n) := by
  obtain ⟨hf, hg, X, hX, hO⟩ := h.out.out
  have HF := Lib.hid hf
  have HF0 := Lib.hid hf
  have HG := Lib.hid hg
  have HX := Lib.hid hX
  have HM := Lib.hid hO
  have px0 : ((s.px : Int) != 0) = false := by simp; omega
  obtain ⟨p, hp⟩ : ∃ p, Hid (y / 2 = p) := ⟨_, rfl⟩
  obtain ⟨q, hq⟩ : ∃ q, Hid (y % 2 = q) := ⟨_, rfl⟩
  have y8 : y < 8 := by rw [← hy.out]; exact Nat.mod_lt _ (by decide)
  have o8 : s.nextV < 256 := hf.m _
  have hff : s.fetch.Fits := Cs.tick_fits (Cs.next_fits hf)
  have z6 : ((z : Int) == 6) = false := by simp; omega
  have x1 : ((x : Int) == 1) = true := by rw [h1]; rfl
  have v1 : s.fetch.one z < 256 := Cs.one_lt hff _
  have f1 : s.fetch.r.f < 256 := hff.r.f
  have h3 : tBitF y (s.fetch.one z) s.fetch.r.f (s.fetch.one z) < 256 := tBitF_lt _ _ _ _
  have yy : (y : Int) % 8 = ((y : Nat) : Int) := by omega
  clear hff hp0 h6 h1 h hf hg hX hO
  have tg1 : Hid True := trivial
  go_enter Tryz.func47, Tryz.ntmps47
  go_upto_region 5 with (first
    | ((with_reducible apply cgY HM); exact cgS) | ((with_reducible apply cpY HM); exact cpS; clear HM; intro w' HM) | ((with_reducible apply crY HM); exact crS) | ((with_reducible apply clY HM); exact clS; clear HM; intro w' HM)
    | (go_at_call 44; have hco := Lib.hid (Co.ok HM.out HG.out HX.out); (with_reducible refine (fetch_at hco).mono ?_); clear hco; rintro e w' ⟨rfl, hc⟩; clear HM HF HG HX; obtain ⟨X, HF, HG, HX, HM⟩ := hc.out.hid; clear hc)
    | (go_at_call 46; (with_reducible refine (parts_of s.nextV x y z p q o8 hx hy hz hp hq _).mono ?_); rintro e w' ⟨rfl, hb⟩; replace HM := Lib.hid (HM.out.call hb); clear hb)
    | ((with_reducible apply own_box HM); exact rfl; (conv => lhs; whnf); exact rfl; exact rfl; (first | (clear tg1 HM; intro w' g1 HM) | (clear tg2 HM; intro w' g2 HM) | (clear tg3 HM; intro w' g3 HM) | (clear tg4 HM; intro w' g4 HM) | (clear HM; intro w' g' HM))) | ((with_reducible apply own_alloc HM); exact rfl; (first | (with_reducible exact zeroParts)); exact rfl; (first | (clear tg1 HM; intro w' g1 HM) | (clear tg2 HM; intro w' g2 HM) | (clear tg3 HM; intro w' g3 HM) | (clear tg4 HM; intro w' g4 HM) | (clear HM; intro w' g' HM))) | ((with_reducible apply own_cell HM); exact rfl; exact rfl; (first | (with_reducible exact oneInt)); exact sS; exact dS; exact rfl) | ((with_reducible apply own_load HM); exact rfl; exact rfl; (first | (with_reducible exact aggParts)); exact sS; exact dS; exact tS; exact rfl) | ((with_reducible apply own_store HM); exact rfl; exact rfl; (conv => lhs; whnf); exact rfl; exact sS; exact vS; exact sS; (first | (with_reducible exact (aggParts).size) | (with_reducible exact (oneInt).size)); exact rfl; exact rfl; exact rfl; exact rfl; clear HM; intro w' HM))
  have HM' := Lib.hid (HM.out.perm (List.Perm.swap _ _ _))
  clear HM; have HM := HM'; clear HM'
  go_upto_region 9 with (first
    | ((with_reducible apply own_cell1 HM); exact rfl; exact rfl; exact dS; exact rfl)
    | ((with_reducible apply cgY HM); exact cgS) | ((with_reducible apply cpY HM); exact cpS; clear HM; intro w' HM) | ((with_reducible apply crY HM); exact crS) | ((with_reducible apply clY HM); exact clS; clear HM; intro w' HM)
    | ((with_reducible apply own_box1 HM); exact rfl; (conv => lhs; whnf); exact rfl; exact rfl; clear tg1 HM; intro w' g1 HM)
    | ((with_reducible apply own_load1 HM); exact rfl; exact rfl; exact tS; exact rfl)
    | (go_at_call 84; (with_reducible refine (cone_q .z HM HF.out _).mono ?_); rintro e w' ⟨rfl, hb⟩; replace HM := Lib.hid (HM.out.call hb); clear hb))
  (refine own_tail 11 HM (by kernel_rfl) (by kernel_rfl) (by kernel_rfl) ?_; simp only [List.take_succ_cons, List.take_zero, List.drop_succ_cons, List.drop_zero]; (try simp only [Act.put, List.setIfInBounds_toArray, List.set_cons_zero, List.set_cons_succ]); repeat ((fail_if_success (with_reducible refine wpQuiet_nil ?_)); first | go_big_quiet_skip | (go_big_quiet_want; first | ((with_reducible apply quiet_get); exact rfl; exact wS; exact sS; exact rfl; go_big_quiet_op; go_big_quiet_on) | ((with_reducible apply quiet_load); exact rfl; (with_reducible exact aggR); exact sS; exact Cs.drop0 _ _; exact Cs.take29 _ _; go_big_quiet_op; go_big_quiet_on) | ((with_reducible apply quiet_load); exact rfl; (first | (with_reducible exact aggParts)); exact sS; exact dS; exact tS; go_big_quiet_op; go_big_quiet_on) | ((with_reducible apply quiet_cell); exact rfl; (first | (with_reducible exact oneInt)); exact sS; exact dS; go_big_quiet_op; go_big_quiet_on) | ((with_reducible apply quiet_call); exact fun w => rfl; (focus (go_simp; all_goals with_reducible rfl)); (intro wq HQ; first | (with_reducible exact (bit_at _ y _ _ _ _ yy v1 f1 v1 (Lib.hid rfl) _).mono fun _ _ ⟨he, hw⟩ => ⟨he, hw ▸ Below.refl _ _⟩)); go_big_quiet_op; go_big_quiet_on) | (go_big_quiet_op; go_big_quiet_on) | (go_big_quiet_op; refine ⟨_, fun _ _ => rfl, ?_⟩; go_big_quiet_on))))
  refine wpQuiet_nil ?_
  intro w' HM'
  clear HM; have HM := HM'; clear HM'
  go_wp2_with (first
    | ((with_reducible apply own_cell1 HM); exact rfl; exact rfl; exact dS; exact rfl)
    | ((with_reducible apply cgY HM); exact cgS) | ((with_reducible apply cpY HM); exact cpS; clear HM; intro w' HM) | ((with_reducible apply crY HM); exact crS) | ((with_reducible apply clY HM); exact clS; clear HM; intro w' HM)
    | ((with_reducible apply own_box1 HM); exact rfl; (conv => lhs; whnf); exact rfl; exact rfl; clear tg1 HM; intro w' g1 HM)
    | ((with_reducible apply own_load1 HM); exact rfl; exact rfl; exact tS; exact rfl))
  go_ret
  have hco := Co.ok (l := _ :: l) HM.out HG.out HX.out
  exact ⟨rfl, Lib.hid (hco.drop.less (by omega))⟩
set_option maxRecDepth 100000 in
set_option maxHeartbeats 800000 in
theorem onBits_do {W0 w : World} {c b n : Nat} {s : Cs} {l : Blocks} (hp0 : s.px = 0) (x y z : Nat) (hx : Hid (Cs.xOf s.nextV = x)) (hy : Hid (Cs.yOf s.nextV = y)) (hz : Hid (Cs.zOf s.nextV = z)) (h6 : ¬ z = 6) (h1 : ¬ x = 1) (h : Hid (Co W0 w c b s l (n + 4))) :
    Calls Tryz.prog 47 #[.pointer (some ⟨c, 0, none⟩)] w fun e w' => e = .returned (.int .i64 8) ∧ Hid (Co W0 w' c b ((s.fetch.changed x y (s.fetch.one z)).setOne z (s.fetch.changedV x y (s.fetch.one z))) l n) := by
  obtain ⟨hf, hg, X, hX, hO⟩ := h.out.out
  have HF := Lib.hid hf
  have HF0 := Lib.hid hf
  have HG := Lib.hid hg
  have HX := Lib.hid hX
  have HM := Lib.hid hO
  have px0 : ((s.px : Int) != 0) = false := by simp; omega
  obtain ⟨p, hp⟩ : ∃ p, Hid (y / 2 = p) := ⟨_, rfl⟩
  obtain ⟨q, hq⟩ : ∃ q, Hid (y % 2 = q) := ⟨_, rfl⟩
  have y8 : y < 8 := by rw [← hy.out]; exact Nat.mod_lt _ (by decide)
  have o8 : s.nextV < 256 := hf.m _
  have hff : s.fetch.Fits := Cs.tick_fits (Cs.next_fits hf)
  have z6 : ((z : Int) == 6) = false := by simp; omega
  have x1 : ((x : Int) == 1) = false := by simp; omega
  have v1 : s.fetch.one z < 256 := Cs.one_lt hff _
  have V1 : s.fetch.changedV x y (s.fetch.one z) < 256 := Cs.changedV_lt hff x y _ y8 v1
  clear hff hp0 h6 h1 h hf hg hX hO
  have tg1 : Hid True := trivial
  go_enter Tryz.func47, Tryz.ntmps47
  go_upto_region 5 with (first
    | ((with_reducible apply cgY HM); exact cgS) | ((with_reducible apply cpY HM); exact cpS; clear HM; intro w' HM) | ((with_reducible apply crY HM); exact crS) | ((with_reducible apply clY HM); exact clS; clear HM; intro w' HM)
    | (go_at_call 44; have hco := Lib.hid (Co.ok HM.out HG.out HX.out); (with_reducible refine (fetch_at hco).mono ?_); clear hco; rintro e w' ⟨rfl, hc⟩; clear HM HF HG HX; obtain ⟨X, HF, HG, HX, HM⟩ := hc.out.hid; clear hc)
    | (go_at_call 46; (with_reducible refine (parts_of s.nextV x y z p q o8 hx hy hz hp hq _).mono ?_); rintro e w' ⟨rfl, hb⟩; replace HM := Lib.hid (HM.out.call hb); clear hb)
    | ((with_reducible apply own_box HM); exact rfl; (conv => lhs; whnf); exact rfl; exact rfl; (first | (clear tg1 HM; intro w' g1 HM) | (clear tg2 HM; intro w' g2 HM) | (clear tg3 HM; intro w' g3 HM) | (clear tg4 HM; intro w' g4 HM) | (clear HM; intro w' g' HM))) | ((with_reducible apply own_alloc HM); exact rfl; (first | (with_reducible exact zeroParts)); exact rfl; (first | (clear tg1 HM; intro w' g1 HM) | (clear tg2 HM; intro w' g2 HM) | (clear tg3 HM; intro w' g3 HM) | (clear tg4 HM; intro w' g4 HM) | (clear HM; intro w' g' HM))) | ((with_reducible apply own_cell HM); exact rfl; exact rfl; (first | (with_reducible exact oneInt)); exact sS; exact dS; exact rfl) | ((with_reducible apply own_load HM); exact rfl; exact rfl; (first | (with_reducible exact aggParts)); exact sS; exact dS; exact tS; exact rfl) | ((with_reducible apply own_store HM); exact rfl; exact rfl; (conv => lhs; whnf); exact rfl; exact sS; exact vS; exact sS; (first | (with_reducible exact (aggParts).size) | (with_reducible exact (oneInt).size)); exact rfl; exact rfl; exact rfl; exact rfl; clear HM; intro w' HM))
  have HM' := Lib.hid (HM.out.perm (List.Perm.swap _ _ _))
  clear HM; have HM := HM'; clear HM'
  go_upto_region 10 with (first
    | ((with_reducible apply own_cell1 HM); exact rfl; exact rfl; exact dS; exact rfl)
    | ((with_reducible apply cgY HM); exact cgS) | ((with_reducible apply cpY HM); exact cpS; clear HM; intro w' HM) | ((with_reducible apply crY HM); exact crS) | ((with_reducible apply clY HM); exact clS; clear HM; intro w' HM)
    | ((with_reducible apply own_box1 HM); exact rfl; (conv => lhs; whnf); exact rfl; exact rfl; clear tg1 HM; intro w' g1 HM)
    | ((with_reducible apply own_load1 HM); exact rfl; exact rfl; exact tS; exact rfl)
    | (go_at_call 84; (with_reducible refine (cone_q .z HM HF.out _).mono ?_); rintro e w' ⟨rfl, hb⟩; replace HM := Lib.hid (HM.out.call hb); clear hb))
  have HM' := Lib.hid HM.out.drew
  clear HM; have HM := HM'; clear HM'
  have d0 := HM.out.cells_at (.s .z) 0 _ rfl
  have d1 := HM.out.cells_at (.s .z) 1 _ rfl
  have d2 := HM.out.cells_at (.s .z) 2 _ rfl
  have d3 := HM.out.cells_at (.s .z) 3 _ rfl
  have d4 := HM.out.cells_at (.s .z) 4 _ rfl
  go_region_held3 (fun w' => w'.cell? ⟨g1, 0, none⟩ = some (.int .i64 (x : Int)) ∧ w'.cell? ⟨g1, 1, none⟩ = some (.int .i64 (y : Int)) ∧ w'.cell? ⟨g1, 2, none⟩ = some (.int .i64 (z : Int)) ∧ w'.cell? ⟨g1, 3, none⟩ = some (.int .i64 (p : Int)) ∧ w'.cell? ⟨g1, 4, none⟩ = some (.int .i64 (q : Int))) (first | assumption | (simp only [*]; trivial) | simp [*]) (first
    | (go_at_call 87; have hco := Lib.hid (Co.ok (l := _ :: l) HM.out HG.out HX.out); (with_reducible refine (changed_at x y z p q _ (Classical.em _) y8 v1 hco).mono ?_); clear hco; rintro e w' ⟨rfl, hc⟩; clear HM HF HG HX; obtain ⟨X, HF, HG, HX, HM⟩ := hc.out.hid1; clear hc; have d0 := HM.out.cells_at (.s .z) 0 _ rfl; have d1 := HM.out.cells_at (.s .z) 1 _ rfl; have d2 := HM.out.cells_at (.s .z) 2 _ rfl; have d3 := HM.out.cells_at (.s .z) 3 _ rfl; have d4 := HM.out.cells_at (.s .z) 4 _ rfl)
    | (go_at_call 86; have hco := Lib.hid (Co.ok (l := _ :: l) HM.out HG.out HX.out); (with_reducible refine (csetOne_at _ _ V1 hco).mono ?_); clear hco; rintro e w' ⟨rfl, hc⟩; clear HM HF HG HX; obtain ⟨X, HF, HG, HX, HM⟩ := hc.out.hid1; clear hc; have d0 := HM.out.cells_at (.s .z) 0 _ rfl; have d1 := HM.out.cells_at (.s .z) 1 _ rfl; have d2 := HM.out.cells_at (.s .z) 2 _ rfl; have d3 := HM.out.cells_at (.s .z) 3 _ rfl; have d4 := HM.out.cells_at (.s .z) 4 _ rfl))
  all_goals go_wp2_with (first | ((with_reducible apply own_cell1 HM); exact rfl; exact rfl; exact dS; exact rfl) | ((with_reducible apply cgY HM); exact cgS) | ((with_reducible apply cpY HM); exact cpS; clear HM; intro w' HM) | ((with_reducible apply crY HM); exact crS) | ((with_reducible apply clY HM); exact clS; clear HM; intro w' HM) | ((with_reducible apply own_box1 HM); exact rfl; (conv => lhs; whnf); exact rfl; exact rfl; clear tg1 HM; intro w' g1 HM) | ((with_reducible apply own_load1 HM); exact rfl; exact rfl; exact tS; exact rfl))
  all_goals go_ret
  all_goals have hco := Co.ok (l := _ :: l) HM.out HG.out HX.out
  all_goals exact ⟨rfl, Lib.hid (hco.drop.less (by omega))⟩
set_option maxRecDepth 100000 in
theorem onBits_at {W0 w : World} {c b n : Nat} {s : Cs} {l : Blocks} (h : Hid (Co W0 w c b s l (n + 4))) :
    Calls Tryz.prog 47 #[.pointer (some ⟨c, 0, none⟩)] w fun e w' => e = .returned (.int .i64 ((s.onBitsC : Nat) : Int)) ∧ Hid (Co W0 w' c b (s.onBits) l n) := by
  by_cases hp : s.px = 0
  · obtain ⟨x, hx⟩ : ∃ x, Hid (Cs.xOf s.nextV = x) := ⟨_, rfl⟩
    obtain ⟨y, hy⟩ : ∃ y, Hid (Cs.yOf s.nextV = y) := ⟨_, rfl⟩
    obtain ⟨z, hz⟩ : ∃ z, Hid (Cs.zOf s.nextV = z) := ⟨_, rfl⟩
    by_cases h6 : z = 6
    · have e2 : s.onBits = s.fetch.bitsAt (Cs.xOf s.nextV) (Cs.yOf s.nextV) (Cs.zOf s.nextV) (s.fetch.pair 2) := (if_pos hp).trans (if_pos (hz.out.trans h6))
      have e3 : s.onBitsC = Cs.bitsC (Cs.xOf s.nextV) 15 := (if_pos hp).trans (if_pos (hz.out.trans h6))
      rw [e2, e3, hx.out, hy.out, hz.out]
      exact onBits_mem hp x y z hx hy hz h6 h
    · have e2 : s.onBits = s.fetch.bitsReg (Cs.xOf s.nextV) (Cs.yOf s.nextV) (Cs.zOf s.nextV) := (if_pos hp).trans (if_neg (fun g => h6 (hz.out.symm.trans g)))
      have e3 : s.onBitsC = 8 := (if_pos hp).trans (if_neg (fun g => h6 (hz.out.symm.trans g)))
      rw [e2, e3, hx.out, hy.out, hz.out]
      by_cases h1 : x = 1
      · have e4 : s.fetch.bitsReg x y z = s.fetch.setF (tBitF y (s.fetch.one z) s.fetch.r.f (s.fetch.one z)) := if_pos h1
        rw [e4]; exact onBits_ask hp x y z hx hy hz h6 h1 h
      · have e4 : s.fetch.bitsReg x y z = (s.fetch.changed x y (s.fetch.one z)).setOne z (s.fetch.changedV x y (s.fetch.one z)) := if_neg h1
        rw [e4]; exact onBits_do hp x y z hx hy hz h6 h1 h
  · have e2 : s.onBits = s.point.next.bitsAt (Cs.xOf s.point.nextV) (Cs.yOf s.point.nextV) (Cs.zOf s.point.nextV) s.pointV := if_neg hp
    have e3 : s.onBitsC = Cs.bitsC (Cs.xOf s.point.nextV) 19 := if_neg hp
    rw [e2, e3]; exact onBits_far hp h
end Go.Proofs.YtljjgakfnajifaaGreatDoor
