import Derived.Test.YtljjgakfnajifaaGreatDoorZCpuLib
import Derived.Deep.Cut
import Derived.Deep.CutRange
namespace Go.Proofs.YtljjgakfnajifaaGreatDoor
open Go.RowKit
set_option maxRecDepth 100000 in
set_option maxHeartbeats 400000 in
theorem csetOne_at {W0 w : World} {c b n : Nat} {s : Cs} {l : Blocks} (i : Int) (v : Nat) (hv : v < 256) (h : Hid (Co W0 w c b s l (n))) :
    Calls Tryz.prog 86 #[.pointer (some ⟨c, 0, none⟩), .int .i64 i, .int .u8 (v : Int)] w fun e w' => e = .returned (.tuple #[]) ∧ Hid (Co W0 w' c b (s.setOne i v) l n) := by
  obtain ⟨hf, hg, X, hX, hO⟩ := h.out.out
  have HF := Lib.hid hf
  have HF0 := Lib.hid hf
  have HG := Lib.hid hg
  have HX := Lib.hid hX
  have HM := Lib.hid hO
  clear h hf hg hX hO
  go_enter Tryz.func86, Tryz.ntmps86
  (refine own_tail 12 HM (by kernel_rfl) (by kernel_rfl) (by kernel_rfl) ?_; simp only [List.take_succ_cons, List.take_zero, List.drop_succ_cons, List.drop_zero]; (try simp only [Act.put, List.setIfInBounds_toArray, List.set_cons_zero, List.set_cons_succ]); repeat ((fail_if_success (with_reducible refine wpQuiet_nil ?_)); first | go_big_quiet_skip | (go_big_quiet_want; first | ((with_reducible apply quiet_get); exact rfl; exact wS; exact sS; exact rfl; go_big_quiet_op; go_big_quiet_on) | ((with_reducible apply quiet_load); exact rfl; (with_reducible exact aggR); exact sS; exact Cs.drop0 _ _; exact Cs.take29 _ _; go_big_quiet_op; go_big_quiet_on) | ((with_reducible apply quiet_call); exact fun w => rfl; (focus (go_simp; all_goals with_reducible rfl)); (intro wq HQ; first | (with_reducible exact setOne_at _ HF.out.r _ _ _ hv _ (Lib.hid rfl) _)); go_big_quiet_op; go_big_quiet_on) | (go_big_quiet_op; go_big_quiet_on) | (go_big_quiet_op; refine ⟨_, fun _ _ => rfl, ?_⟩; go_big_quiet_on))))
  refine wpQuiet_nil ?_
  intro w' HM'
  clear HM; have HM := HM'; clear HM'
  go_wp2_with (first
    | ((with_reducible apply cgY HM); exact cgS) | ((with_reducible apply cpY HM); exact cpS; clear HM; intro w' HM) | ((with_reducible apply crY HM); exact crS) | ((with_reducible apply clY HM); exact clS; clear HM; intro w' HM))
  go_end0
  have hco := fun hf => Co.made HM.out HG.out HX.out hf
  exact ⟨rfl, Lib.hid (hco (by first | with_reducible exact HF.out | (focus repeat' (first | (with_reducible first | exact HF.out | apply ftA | apply ftF | apply ftB | apply ftC | apply ftD | apply ftE | apply ftH | apply ftL | apply ftS | apply ftP | apply ftW | apply ftI | apply ftR | apply ftM | apply ftX | apply ft1 | apply ft2 | apply ftT | apply ftY | apply ftZ | apply ftr | exact up1_lt _ | exact dn1_lt _ | exact wMove_lt _ _ | exact nByte_lt _ _ _ _ _ _ _ _ | exact Nat.mod_lt _ (by decide)) | exact Rg.setOne_fits _ HF.out.r _ _ _ hv | assumption | omega | exact Nat.mod_lt _ (by decide)))))⟩
set_option maxRecDepth 100000 in
set_option maxHeartbeats 400000 in
theorem csetOwn_at {W0 w : World} {c b n : Nat} {s : Cs} {l : Blocks} (i : Int) (v : Nat) (hv : v < 256) (h : Hid (Co W0 w c b s l (n))) :
    Calls Tryz.prog 142 #[.pointer (some ⟨c, 0, none⟩), .int .i64 i, .int .u8 (v : Int)] w fun e w' => e = .returned (.tuple #[]) ∧ Hid (Co W0 w' c b (s.setOwn i v) l n) := by
  obtain ⟨hf, hg, X, hX, hO⟩ := h.out.out
  have HF := Lib.hid hf
  have HF0 := Lib.hid hf
  have HG := Lib.hid hg
  have HX := Lib.hid hX
  have HM := Lib.hid hO
  clear h hf hg hX hO
  go_enter Tryz.func142, Tryz.ntmps142
  go_wp2_with (first
    | ((with_reducible apply cgY HM); exact cgS) | ((with_reducible apply cpY HM); exact cpS; clear HM; intro w' HM) | ((with_reducible apply crY HM); exact crS) | ((with_reducible apply clY HM); exact clS; clear HM; intro w' HM)
    | (go_at_call 148; (with_reducible refine (setOne_at0 _ HF.out.r _ _ hv _ (Lib.hid rfl) _).mono ?_); rintro e w' ⟨rfl, hb⟩; replace HM := Lib.hid (HM.out.call hb); clear hb))
  go_end0
  have hco := fun hf => Co.made HM.out HG.out HX.out hf
  exact ⟨rfl, Lib.hid (hco (by first | with_reducible exact HF.out | (focus repeat' (first | (with_reducible first | exact HF.out | apply ftA | apply ftF | apply ftB | apply ftC | apply ftD | apply ftE | apply ftH | apply ftL | apply ftS | apply ftP | apply ftW | apply ftI | apply ftR | apply ftM | apply ftX | apply ft1 | apply ft2 | apply ftT | apply ftY | apply ftZ | apply ftr | exact up1_lt _ | exact dn1_lt _ | exact wMove_lt _ _ | exact nByte_lt _ _ _ _ _ _ _ _ | exact Nat.mod_lt _ (by decide)) | exact Rg.setOne_fits _ HF.out.r _ _ _ hv | assumption | omega | exact Nat.mod_lt _ (by decide)))))⟩
set_option maxRecDepth 100000 in
set_option maxHeartbeats 400000 in
theorem csetPair_at {W0 w : World} {c b n : Nat} {s : Cs} {l : Blocks} (i : Int) (v : Nat) (hv : v < 65536) (h : Hid (Co W0 w c b s l (n))) :
    Calls Tryz.prog 152 #[.pointer (some ⟨c, 0, none⟩), .int .i64 i, .int .u16 (v : Int)] w fun e w' => e = .returned (.tuple #[]) ∧ Hid (Co W0 w' c b (s.setPair i v) l n) := by
  obtain ⟨hf, hg, X, hX, hO⟩ := h.out.out
  have HF := Lib.hid hf
  have HF0 := Lib.hid hf
  have HG := Lib.hid hg
  have HX := Lib.hid hX
  have HM := Lib.hid hO
  clear h hf hg hX hO
  go_enter Tryz.func152, Tryz.ntmps152
  (refine own_tail 10 HM (by kernel_rfl) (by kernel_rfl) (by kernel_rfl) ?_; simp only [List.take_succ_cons, List.take_zero, List.drop_succ_cons, List.drop_zero]; (try simp only [Act.put, List.setIfInBounds_toArray, List.set_cons_zero, List.set_cons_succ]); repeat ((fail_if_success (with_reducible refine wpQuiet_nil ?_)); first | go_big_quiet_skip | (go_big_quiet_want; first | ((with_reducible apply quiet_get); exact rfl; exact wS; exact sS; exact rfl; go_big_quiet_op; go_big_quiet_on) | ((with_reducible apply quiet_load); exact rfl; (with_reducible exact aggR); exact sS; exact Cs.drop0 _ _; exact Cs.take29 _ _; go_big_quiet_op; go_big_quiet_on) | ((with_reducible apply quiet_call); exact fun w => rfl; (focus (go_simp; all_goals with_reducible rfl)); (intro wq HQ; first | (with_reducible exact stands_q .z HQ HF.out _) | (with_reducible exact setPair_at _ _ _ hv _ (Lib.hid rfl) _)); go_big_quiet_op; go_big_quiet_on) | (go_big_quiet_op; go_big_quiet_on) | (go_big_quiet_op; refine ⟨_, fun _ _ => rfl, ?_⟩; go_big_quiet_on))))
  refine wpQuiet_nil ?_
  intro w' HM'
  clear HM; have HM := HM'; clear HM'
  go_wp2_with (first
    | ((with_reducible apply cgY HM); exact cgS) | ((with_reducible apply cpY HM); exact cpS; clear HM; intro w' HM) | ((with_reducible apply crY HM); exact crS) | ((with_reducible apply clY HM); exact clS; clear HM; intro w' HM))
  go_end0
  have hco := fun hf => Co.made HM.out HG.out HX.out hf
  exact ⟨rfl, Lib.hid (hco (by first | with_reducible exact HF.out | (focus repeat' (first | (with_reducible first | exact HF.out | apply ftA | apply ftF | apply ftB | apply ftC | apply ftD | apply ftE | apply ftH | apply ftL | apply ftS | apply ftP | apply ftW | apply ftI | apply ftR | apply ftM | apply ftX | apply ft1 | apply ft2 | apply ftT | apply ftY | apply ftZ | apply ftr | exact up1_lt _ | exact dn1_lt _ | exact wMove_lt _ _ | exact nByte_lt _ _ _ _ _ _ _ _ | exact Nat.mod_lt _ (by decide)) | exact Rg.setPair_fits _ HF.out.r _ _ hv | assumption | omega | exact Nat.mod_lt _ (by decide)))))⟩
set_option maxRecDepth 100000 in
set_option maxHeartbeats 400000 in
theorem pop_at {W0 w : World} {c b n : Nat} {s : Cs} {l : Blocks} (h : Hid (Co W0 w c b s l (n + 2))) :
    Calls Tryz.prog 168 #[.pointer (some ⟨c, 0, none⟩)] w fun e w' => e = .returned (.int .u16 (s.popV : Int)) ∧ Hid (Co W0 w' c b (s.pop) l n) := by
  obtain ⟨hf, hg, X, hX, hO⟩ := h.out.out
  have HF := Lib.hid hf
  have HF0 := Lib.hid hf
  have HG := Lib.hid hg
  have HX := Lib.hid hX
  have HM := Lib.hid hO
  have h1 : s.r.sp < 65536 := hf.r.sp
  have h2 : (s.r.sp + 2) % 65536 < 65536 := Nat.mod_lt _ (by decide)
  clear h hf hg hX hO
  go_enter Tryz.func168, Tryz.ntmps168
  go_wp2_with (first
    | ((with_reducible apply cgY HM); exact cgS) | ((with_reducible apply cpY HM); exact cpS; clear HM; intro w' HM) | ((with_reducible apply crY HM); exact crS) | ((with_reducible apply clY HM); exact clS; clear HM; intro w' HM)
    | (go_at_call 95; have hco := Lib.hid (Co.ok HM.out HG.out HX.out); (with_reducible refine (number_at _ h1 hco).mono ?_); clear hco; rintro e w' ⟨rfl, hc⟩; clear HM HF HG HX; obtain ⟨X, HF, HG, HX, HM⟩ := hc.out.hid; clear hc))
  go_ret
  have hco := Co.ok HM.out HG.out HX.out
  exact ⟨rfl, Lib.hid hco⟩
set_option maxRecDepth 100000 in
set_option maxHeartbeats 400000 in
theorem goTo_at {W0 w : World} {c b n : Nat} {s : Cs} {l : Blocks} (a : Nat) (ha : a < 65536) (h : Hid (Co W0 w c b s l (n))) :
    Calls Tryz.prog 94 #[.pointer (some ⟨c, 0, none⟩), .int .u16 (a : Int)] w fun e w' => e = .returned (.tuple #[]) ∧ Hid (Co W0 w' c b (s.goTo a) l n) := by
  obtain ⟨hf, hg, X, hX, hO⟩ := h.out.out
  have HF := Lib.hid hf
  have HF0 := Lib.hid hf
  have HG := Lib.hid hg
  have HX := Lib.hid hX
  have HM := Lib.hid hO
  clear h hf hg hX hO
  go_enter Tryz.func94, Tryz.ntmps94
  go_wp2_with (first
    | ((with_reducible apply cgY HM); exact cgS) | ((with_reducible apply cpY HM); exact cpS; clear HM; intro w' HM) | ((with_reducible apply crY HM); exact crS) | ((with_reducible apply clY HM); exact clS; clear HM; intro w' HM))
  go_end0
  have hco := Co.ok HM.out HG.out HX.out
  exact ⟨rfl, Lib.hid hco⟩
set_option maxRecDepth 100000 in
set_option maxHeartbeats 400000 in
theorem begin_at {W0 w : World} {c b n : Nat} {s : Cs} {l : Blocks} (a : Nat) (ha : a < 65536) (h : Hid (Co W0 w c b s l (n + 2))) :
    Calls Tryz.prog 50 #[.pointer (some ⟨c, 0, none⟩), .int .u16 (a : Int)] w fun e w' => e = .returned (.tuple #[]) ∧ Hid (Co W0 w' c b (s.start a) l n) := by
  obtain ⟨hf, hg, X, hX, hO⟩ := h.out.out
  have HF := Lib.hid hf
  have HF0 := Lib.hid hf
  have HG := Lib.hid hg
  have HX := Lib.hid hX
  have HM := Lib.hid hO
  have h1 : s.r.pc < 65536 := hf.r.pc
  clear h hf hg hX hO
  go_enter Tryz.func50, Tryz.ntmps50
  go_wp2_with (first
    | ((with_reducible apply cgY HM); exact cgS) | ((with_reducible apply cpY HM); exact cpS; clear HM; intro w' HM) | ((with_reducible apply crY HM); exact crS) | ((with_reducible apply clY HM); exact clS; clear HM; intro w' HM)
    | (go_at_call 93; have hco := Lib.hid (Co.ok HM.out HG.out HX.out); (with_reducible refine (push_at _ h1 hco).mono ?_); clear hco; rintro e w' ⟨rfl, hc⟩; clear HM HF HG HX; obtain ⟨X, HF, HG, HX, HM⟩ := hc.out.hid; clear hc)
    | (go_at_call 94; have hco := Lib.hid (Co.ok HM.out HG.out HX.out); (with_reducible refine (goTo_at a ha hco).mono ?_); clear hco; rintro e w' ⟨rfl, hc⟩; clear HM HF HG HX; obtain ⟨X, HF, HG, HX, HM⟩ := hc.out.hid; clear hc))
  go_end0
  have hco := Co.ok HM.out HG.out HX.out
  exact ⟨rfl, Lib.hid hco⟩
set_option maxRecDepth 100000 in
set_option maxHeartbeats 400000 in
theorem comeBack_at {W0 w : World} {c b n : Nat} {s : Cs} {l : Blocks} (h : Hid (Co W0 w c b s l (n + 2))) :
    Calls Tryz.prog 137 #[.pointer (some ⟨c, 0, none⟩)] w fun e w' => e = .returned (.tuple #[]) ∧ Hid (Co W0 w' c b (s.back) l n) := by
  obtain ⟨hf, hg, X, hX, hO⟩ := h.out.out
  have HF := Lib.hid hf
  have HF0 := Lib.hid hf
  have HG := Lib.hid hg
  have HX := Lib.hid hX
  have HM := Lib.hid hO
  have h1 : s.popV < 65536 := Cs.numV_lt hf _
  clear h hf hg hX hO
  go_enter Tryz.func137, Tryz.ntmps137
  go_wp2_with (first
    | ((with_reducible apply cgY HM); exact cgS) | ((with_reducible apply cpY HM); exact cpS; clear HM; intro w' HM) | ((with_reducible apply crY HM); exact crS) | ((with_reducible apply clY HM); exact clS; clear HM; intro w' HM)
    | (go_at_call 168; have hco := Lib.hid (Co.ok HM.out HG.out HX.out); (with_reducible refine (pop_at hco).mono ?_); clear hco; rintro e w' ⟨rfl, hc⟩; clear HM HF HG HX; obtain ⟨X, HF, HG, HX, HM⟩ := hc.out.hid; clear hc)
    | (go_at_call 94; have hco := Lib.hid (Co.ok HM.out HG.out HX.out); (with_reducible refine (goTo_at _ h1 hco).mono ?_); clear hco; rintro e w' ⟨rfl, hc⟩; clear HM HF HG HX; obtain ⟨X, HF, HG, HX, HM⟩ := hc.out.hid; clear hc))
  go_end0
  have hco := Co.ok HM.out HG.out HX.out
  exact ⟨rfl, Lib.hid hco⟩
end Go.Proofs.YtljjgakfnajifaaGreatDoor
namespace Go.Proofs.YtljjgakfnajifaaGreatDoor
open Go.RowKit
set_option maxRecDepth 100000 in
set_option maxHeartbeats 400000 in
theorem pointed_at {W0 w : World} {c b n : Nat} {s : Cs} {l : Blocks} (h : Hid (Co W0 w c b s l (n + 1))) :
    Calls Tryz.prog 81 #[.pointer (some ⟨c, 0, none⟩)] w fun e w' => e = .returned (.int .u16 (s.pointV : Int)) ∧ Hid (Co W0 w' c b (s.point) l n) := by
  by_cases hp : s.px = 0
  · have E1 : s.pointV = s.pair 2 := if_pos hp
    have E2 : s.point = s := if_pos hp
    rw [E1, E2]
    have hp' : ((s.px : Int) == 0) = true := by simp; omega
    obtain ⟨hf, hg, X, hX, hO⟩ := h.out.out
    have HF := Lib.hid hf
    have HF0 := Lib.hid hf
    have HG := Lib.hid hg
    have HX := Lib.hid hX
    have HM := Lib.hid hO
    clear E1 E2 hp
    clear h hf hg hX hO
    go_enter Tryz.func81, Tryz.ntmps81
    go_wp2_with (first
      | ((with_reducible apply cgY HM); exact cgS) | ((with_reducible apply cpY HM); exact cpS; clear HM; intro w' HM) | ((with_reducible apply crY HM); exact crS) | ((with_reducible apply clY HM); exact clS; clear HM; intro w' HM)
      | (go_at_call 83; (with_reducible refine (cpair_q .z HM HF.out _).mono ?_); rintro e w' ⟨rfl, hb⟩; replace HM := Lib.hid (HM.out.call hb); clear hb))
    go_ret
    have hco := fun hf => Co.made HM.out HG.out HX.out hf
    exact ⟨rfl, Lib.hid ((hco HF.out).less (by omega))⟩
  · have E1 : s.pointV = wMove (s.pair 2) s.nextV := if_neg hp
    have E2 : s.point = s.next.setWZ (wMove (s.pair 2) s.nextV) := if_neg hp
    rw [E1, E2]
    have hp' : ((s.px : Int) == 0) = false := by simp; omega
    obtain ⟨hf, hg, X, hX, hO⟩ := h.out.out
    have HF := Lib.hid hf
    have HF0 := Lib.hid hf
    have HG := Lib.hid hg
    have HX := Lib.hid hX
    have HM := Lib.hid hO
    have h1 : s.pair 2 < 65536 := Cs.pair_lt hf _
    have h2 : s.nextV < 256 := hf.m _
    clear E1 E2 hp
    clear h hf hg hX hO
    go_enter Tryz.func81, Tryz.ntmps81
    go_wp2_with (first
      | ((with_reducible apply cgY HM); exact cgS) | ((with_reducible apply cpY HM); exact cpS; clear HM; intro w' HM) | ((with_reducible apply crY HM); exact crS) | ((with_reducible apply clY HM); exact clS; clear HM; intro w' HM)
      | (go_at_call 83; (with_reducible refine (cpair_q .z HM HF.out _).mono ?_); rintro e w' ⟨rfl, hb⟩; replace HM := Lib.hid (HM.out.call hb); clear hb)
      | (go_at_call 78; have hco := Lib.hid (Co.ok HM.out HG.out HX.out); (with_reducible refine (next_at hco).mono ?_); clear hco; rintro e w' ⟨rfl, hc⟩; clear HM HF HG HX; obtain ⟨X, HF, HG, HX, HM⟩ := hc.out.hid; clear hc)
      | (go_at_call 140; (with_reducible refine (move_at _ _ _ h1 h2 (Lib.hid rfl) _).mono ?_); rintro e w' ⟨rfl, rfl⟩))
    go_ret
    have hco := Co.ok HM.out HG.out HX.out
    exact ⟨rfl, Lib.hid hco⟩
end Go.Proofs.YtljjgakfnajifaaGreatDoor
namespace Go.Proofs.YtljjgakfnajifaaGreatDoor
open Go.RowKit
theorem Cs.pointV_lt {s : Cs} (h : s.Fits) : s.pointV < 65536 := by
  unfold Cs.pointV
  split
  · exact Cs.pair_lt h _
  · exact wMove_lt _ _
theorem Cs.point_px (s : Cs) : s.point.px = s.px := by unfold Cs.point; split <;> rfl
theorem Cs.point_m (s : Cs) : s.point.m = s.m := by unfold Cs.point; split <;> rfl
set_option maxRecDepth 100000 in
set_option maxHeartbeats 400000 in
theorem operand_near {W0 w : World} {c b n : Nat} {s : Cs} {l : Blocks} (hp : s.px = 0) (h : Hid (Co W0 w c b s l (n + 2))) :
    Calls Tryz.prog 90 #[.pointer (some ⟨c, 0, none⟩), .int .i64 6] w fun e w' => e = .returned (.tuple #[.int .u8 (s.m s.pointV : Int), .int .i64 7]) ∧ Hid (Co W0 w' c b (s.point.rd s.pointV) l n) := by
  rw [show s.m s.pointV = s.point.m s.pointV by rw [Cs.point_m]]
  obtain ⟨hf, hg, X, hX, hO⟩ := h.out.out
  have HF := Lib.hid hf
  have HF0 := Lib.hid hf
  have HG := Lib.hid hg
  have HX := Lib.hid hX
  have HM := Lib.hid hO
  have P1 : s.pointV < 65536 := Cs.pointV_lt hf
  have hp' : ((s.px : Int) == 0) = true := by simp; omega
  have hpp : s.point.px = 0 := by rw [Cs.point_px]; exact hp
  clear h hf hg hX hO
  have hmRead : ∀ w : World, (method 309 28 (.pointer (some ⟨b, 0, none⟩)) "Read").run Tryz.prog w = .ok (260, .pointer (some ⟨b, 0, none⟩)) w := fun _ => by kernel_rfl
  go_enter Tryz.func90, Tryz.ntmps90
  go_upto_region 2 with fail
  have HM' := Lib.hid HM.out.drew
  clear HM; have HM := HM'; clear HM'
  have c29 := HM.out.cells_at .z 29 _ rfl
  go_region_with (first
    | (go_at_call 81; have hco := Lib.hid (Co.ok HM.out HG.out HX.out); (with_reducible refine (pointed_at hco).mono ?_); clear hco; rintro e w' ⟨rfl, hc⟩; clear HM HF HG HX; obtain ⟨X, HF, HG, HX, HM⟩ := hc.out.hid; clear hc; have c29 := HM.out.cells_at .z 29 _ rfl)
    | (go_at_call 260; have hco := Lib.hid (Co.ok HM.out HG.out HX.out); (with_reducible refine (rd_at _ P1 hco).mono ?_); clear hco; rintro e w' ⟨rfl, hc⟩; clear HM HF HG HX; obtain ⟨X, HF, HG, HX, HM⟩ := hc.out.hid; clear hc; have c29 := HM.out.cells_at .z 29 _ rfl)
    | (go_at_call 163; (with_reducible refine (either_near (s := s.point.rd s.pointV) .z HM HF.out hpp 7 15).mono ?_); rintro e w' ⟨rfl, hb⟩; replace HM := Lib.hid (HM.out.call hb); clear hb; have c29 := HM.out.cells_at .z 29 _ rfl))
  all_goals go_wp2_with fail
  all_goals go_ret2
  all_goals have hco := Co.ok HM.out HG.out HX.out
  all_goals exact ⟨rfl, Lib.hid (hco.less (by omega))⟩
set_option maxRecDepth 100000 in
set_option maxHeartbeats 400000 in
theorem operand_far {W0 w : World} {c b n : Nat} {s : Cs} {l : Blocks} (hp : ¬ s.px = 0) (h : Hid (Co W0 w c b s l (n + 2))) :
    Calls Tryz.prog 90 #[.pointer (some ⟨c, 0, none⟩), .int .i64 6] w fun e w' => e = .returned (.tuple #[.int .u8 (s.m s.pointV : Int), .int .i64 15]) ∧ Hid (Co W0 w' c b (s.point.rd s.pointV) l n) := by
  rw [show s.m s.pointV = s.point.m s.pointV by rw [Cs.point_m]]
  obtain ⟨hf, hg, X, hX, hO⟩ := h.out.out
  have HF := Lib.hid hf
  have HF0 := Lib.hid hf
  have HG := Lib.hid hg
  have HX := Lib.hid hX
  have HM := Lib.hid hO
  have P1 : s.pointV < 65536 := Cs.pointV_lt hf
  have hp' : ((s.px : Int) == 0) = false := by simp; omega
  have hpp : ¬ s.point.px = 0 := by rw [Cs.point_px]; exact hp
  clear h hf hg hX hO
  have hmRead : ∀ w : World, (method 309 28 (.pointer (some ⟨b, 0, none⟩)) "Read").run Tryz.prog w = .ok (260, .pointer (some ⟨b, 0, none⟩)) w := fun _ => by kernel_rfl
  go_enter Tryz.func90, Tryz.ntmps90
  go_upto_region 2 with fail
  have HM' := Lib.hid HM.out.drew
  clear HM; have HM := HM'; clear HM'
  have c29 := HM.out.cells_at .z 29 _ rfl
  go_region_with (first
    | (go_at_call 81; have hco := Lib.hid (Co.ok HM.out HG.out HX.out); (with_reducible refine (pointed_at hco).mono ?_); clear hco; rintro e w' ⟨rfl, hc⟩; clear HM HF HG HX; obtain ⟨X, HF, HG, HX, HM⟩ := hc.out.hid; clear hc; have c29 := HM.out.cells_at .z 29 _ rfl)
    | (go_at_call 260; have hco := Lib.hid (Co.ok HM.out HG.out HX.out); (with_reducible refine (rd_at _ P1 hco).mono ?_); clear hco; rintro e w' ⟨rfl, hc⟩; clear HM HF HG HX; obtain ⟨X, HF, HG, HX, HM⟩ := hc.out.hid; clear hc; have c29 := HM.out.cells_at .z 29 _ rfl)
    | (go_at_call 163; (with_reducible refine (either_far (s := s.point.rd s.pointV) .z HM HF.out hpp 7 15).mono ?_); rintro e w' ⟨rfl, hb⟩; replace HM := Lib.hid (HM.out.call hb); clear hb; have c29 := HM.out.cells_at .z 29 _ rfl))
  all_goals go_wp2_with fail
  all_goals go_ret2
  all_goals have hco := Co.ok HM.out HG.out HX.out
  all_goals exact ⟨rfl, Lib.hid (hco.less (by omega))⟩
end Go.Proofs.YtljjgakfnajifaaGreatDoor
namespace Go.Proofs.YtljjgakfnajifaaGreatDoor
open Go.RowKit
set_option maxRecDepth 100000 in
set_option maxHeartbeats 400000 in
theorem sum_at {W0 w : World} {c b n : Nat} {s : Cs} {l : Blocks} (y v : Nat) (hy : y < 8) (hv : v < 256) (h : Hid (Co W0 w c b s l (n))) :
    Calls Tryz.prog 91 #[.pointer (some ⟨c, 0, none⟩), .int .i64 (y : Int), .int .u8 (v : Int)] w fun e w' => e = .returned (.tuple #[]) ∧ Hid (Co W0 w' c b (s.sum y v) l n) := by
  obtain ⟨hf, hg, X, hX, hO⟩ := h.out.out
  have HF := Lib.hid hf
  have HF0 := Lib.hid hf
  have HG := Lib.hid hg
  have HX := Lib.hid hX
  have HM := Lib.hid hO
  have a1 : s.r.a < 256 := hf.r.a
  have f1 : s.r.f < 256 := hf.r.f
  have y1 : (y : Int) % 8 = ((y : Nat) : Int) := by omega
  obtain ⟨A, hA⟩ : ∃ x, Hid (nDoV y s.r.a v s.r.f = x) := ⟨_, rfl⟩
  obtain ⟨B, hB⟩ : ∃ x, Hid (nDoF y s.r.a v s.r.f = x) := ⟨_, rfl⟩
  have A1 : A < 256 := by rw [← hA.out]; exact nDoV_lt y _ v _ hy a1 hv
  have B1 : B < 256 := by rw [← hB.out]; exact nDoF_lt y _ v _ hy
  have E : s.sum y v = (s.setA A).setF B := by unfold Cs.sum; rw [hA.out, hB.out]
  rw [E]
  clear E h hf hg hX hO
  go_enter Tryz.func91, Tryz.ntmps91
  have c0 := HM.out.cells_at .z 0 _ rfl
  have c1 := HM.out.cells_at .z 1 _ rfl
  have fr0 := (HM.out.at_ .z).free 0
  have fr1 := (HM.out.at_ .z).free 1
  have HM2 := Lib.hid ((HM.out.of_cell 0 (v := .int .u8 (A : Int)) .z).of_cell 1 (v := .int .u8 (B : Int)) .z).drew
  clear HM
  go_region_with (first
    | (go_at_call 164; (with_reducible refine (do_at _ y _ v _ A B y1 a1 hv f1 hA hB _).mono ?_); rintro e w' ⟨rfl, rfl⟩))
  all_goals go_wp2_with fail
  all_goals trace_state
  all_goals go_end0
  all_goals exact ⟨rfl, Lib.hid (Co.made (s := (s.setA A).setF B) HM2.out HG.out HX.out (Cs.setF_fits (Cs.setA_fits HF.out A1) B1))⟩
end Go.Proofs.YtljjgakfnajifaaGreatDoor
