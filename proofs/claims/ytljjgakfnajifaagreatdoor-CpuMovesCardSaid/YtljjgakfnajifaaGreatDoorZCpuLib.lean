import Derived.Test.YtljjgakfnajifaaGreatDoorZSumCode4
import Derived.Test.YtljjgakfnajifaaGreatDoorZPairCode
import Derived.Test.YtljjgakfnajifaaGreatDoorZRegPair
import Derived.Test.YtljjgakfnajifaaGreatDoorZRegSwap
import Derived.Test.YtljjgakfnajifaaGreatDoorZBase
import Derived.Deep.Cut
import Derived.Deep.CutRange
namespace Go.Proofs.YtljjgakfnajifaaGreatDoor
end Go.Proofs.YtljjgakfnajifaaGreatDoor
namespace Go.Proofs.YtljjgakfnajifaaGreatDoor
open Go.RowKit
theorem Own.again {W0 w w' : World} {l : Blocks} (h : Own W0 w l) (h' : Hid (Own w w' [])) : Own W0 w' l := h.call h'.out.below
theorem setOne_at0 (r : Rg) (hr : r.Fits) (n : Int) (v : Nat) (hv : v < 256) (s : Rg) (hs : Hid (r.setOne n 0 v = s)) (w : World) : Calls Tryz.prog 148 #[r.v, .int .i64 n, .int .u8 0, .int .u8 (v : Int)] w fun e w' => e = .returned s.v ∧ Below w.heap.size w w' := setOne_at r hr n 0 v hv s hs w
theorem regOne_at0 (r : Rg) (hr : r.Fits) (n : Int) (O : Nat) (hO : Hid (r.one n 0 = O)) (w : World) : Calls Tryz.prog 145 #[r.v, .int .i64 n, .int .u8 0] w fun e w' => e = .returned (.int .u8 (O : Int)) ∧ Below w.heap.size w w' := regOne_at r hr n 0 O hO w
set_option maxRecDepth 100000 in
set_option maxHeartbeats 400000 in
theorem stands_q {W0 w : World} {c b : Nat} {s : Cs} {L : Blocks} (hs : Sel L c 65 (s.cells b)) (h : Hid (Own W0 w L)) (hf : s.Fits) (n : Int) :
    Calls Tryz.prog 144 #[.pointer (some ⟨c, 0, none⟩), .int .i64 n] w fun e w' => e = .returned (.int .i64 (s.stands n)) ∧ Below w.heap.size w w' := by
  have HC := Lib.hid (h.out.cells_at hs)
  have HF := Lib.hid hf
  clear hs h hf
  have HM := Lib.hid (Own.start w)
  by_cases hn : n = 2
  · subst hn
    go_enter Tryz.func144, Tryz.ntmps144
    go_wp2_with (first | ((with_reducible apply own_old HM); exact rfl; exact rfl; exact wS; exact HC.out _ _ rfl; exact rfl; exact rfl) | ((with_reducible apply own_oldrow HM); exact rfl; exact rfl; (with_reducible exact aggR); exact HC.out; exact Cs.drop0 _ _; exact Cs.take29 _ _; exact rfl) | (go_at_call 205; (with_reducible refine (index_at _ _ (Lib.hid rfl) _).mono ?_); rintro e w' ⟨rfl, rfl⟩))
    go_ret
    exact ⟨rfl, Own.fin HM⟩
  · have e : s.stands n = n := if_neg hn
    rw [e]
    go_enter Tryz.func144, Tryz.ntmps144
    go_wp2_with (first | ((with_reducible apply own_old HM); exact rfl; exact rfl; exact wS; exact HC.out _ _ rfl; exact rfl; exact rfl) | ((with_reducible apply own_oldrow HM); exact rfl; exact rfl; (with_reducible exact aggR); exact HC.out; exact Cs.drop0 _ _; exact Cs.take29 _ _; exact rfl))
    go_ret
    exact ⟨rfl, Own.fin HM⟩
set_option maxRecDepth 100000 in
set_option maxHeartbeats 400000 in
theorem cpair_q {W0 w : World} {c b : Nat} {s : Cs} {L : Blocks} (hs : Sel L c 65 (s.cells b)) (h : Hid (Own W0 w L)) (hf : s.Fits) (n : Int) :
    Calls Tryz.prog 83 #[.pointer (some ⟨c, 0, none⟩), .int .i64 n] w fun e w' => e = .returned (.int .u16 (s.pair n : Int)) ∧ Below w.heap.size w w' := by
  have HS := Lib.hid hs
  have HH := h
  have HC := Lib.hid (h.out.cells_at hs)
  have HF := Lib.hid hf
  clear hs h hf
  have HM := Lib.hid (Own.start w)
  go_enter Tryz.func83, Tryz.ntmps83
  go_upto_region 1 with fail
  (refine own_region HM (by kernel_rfl) (by kernel_rfl) ?_; (try simp only [Act.put, List.setIfInBounds_toArray, List.set_cons_zero, List.set_cons_succ]); repeat ((fail_if_success (with_reducible refine wpQuiet_nil ?_)); first | go_big_quiet_skip | (go_big_quiet_want; first | ((with_reducible apply quiet_old); exact rfl; exact wS; exact HC.out _ _ rfl; exact rfl; go_big_quiet_op; go_big_quiet_on) | ((with_reducible apply quiet_oldrow); exact rfl; (with_reducible exact aggR); exact HC.out; exact Cs.drop0 _ _; exact Cs.take29 _ _; go_big_quiet_op; go_big_quiet_on) | ((with_reducible apply quiet_call); exact fun w => rfl; (focus (go_simp; all_goals with_reducible rfl)); (intro wq HQ; first | (with_reducible exact stands_q HS.out (Lib.hid (Own.again HH.out HQ)) HF.out _) | (with_reducible exact pair_at _ HF.out.r _ _ (Lib.hid rfl) _)); go_big_quiet_op; go_big_quiet_on) | (go_big_quiet_op; go_big_quiet_on) | (go_big_quiet_op; refine ⟨_, fun _ _ => rfl, ?_⟩; go_big_quiet_on))))
  refine wpQuiet_nil ?_
  intro w' HM'
  clear HM; have HM := HM'; clear HM'
  go_wp2_with fail
  go_ret
  exact ⟨rfl, Own.fin HM⟩
set_option maxRecDepth 100000 in
set_option maxHeartbeats 400000 in
theorem cone_q {W0 w : World} {c b : Nat} {s : Cs} {L : Blocks} (hs : Sel L c 65 (s.cells b)) (h : Hid (Own W0 w L)) (hf : s.Fits) (n : Int) :
    Calls Tryz.prog 84 #[.pointer (some ⟨c, 0, none⟩), .int .i64 n] w fun e w' => e = .returned (.int .u8 (s.one n : Int)) ∧ Below w.heap.size w w' := by
  have HC := Lib.hid (h.out.cells_at hs)
  have HF := Lib.hid hf
  clear hs h hf
  have HM := Lib.hid (Own.start w)
  go_enter Tryz.func84, Tryz.ntmps84
  go_upto_region 1 with fail
  (refine own_region HM (by kernel_rfl) (by kernel_rfl) ?_; (try simp only [Act.put, List.setIfInBounds_toArray, List.set_cons_zero, List.set_cons_succ]); repeat ((fail_if_success (with_reducible refine wpQuiet_nil ?_)); first | go_big_quiet_skip | (go_big_quiet_want; first | ((with_reducible apply quiet_old); exact rfl; exact wS; exact HC.out _ _ rfl; exact rfl; go_big_quiet_op; go_big_quiet_on) | ((with_reducible apply quiet_oldrow); exact rfl; (with_reducible exact aggR); exact HC.out; exact Cs.drop0 _ _; exact Cs.take29 _ _; go_big_quiet_op; go_big_quiet_on) | ((with_reducible apply quiet_call); exact fun w => rfl; (focus (go_simp; all_goals with_reducible rfl)); (intro wq HQ; first | (with_reducible exact regOne_at _ HF.out.r _ _ _ (Lib.hid rfl) _)); go_big_quiet_op; go_big_quiet_on) | (go_big_quiet_op; go_big_quiet_on) | (go_big_quiet_op; refine ⟨_, fun _ _ => rfl, ?_⟩; go_big_quiet_on))))
  refine wpQuiet_nil ?_
  intro w' HM'
  clear HM; have HM := HM'; clear HM'
  go_wp2_with fail
  go_ret
  exact ⟨rfl, Own.fin HM⟩
set_option maxRecDepth 100000 in
set_option maxHeartbeats 400000 in
theorem cown_q {W0 w : World} {c b : Nat} {s : Cs} {L : Blocks} (hs : Sel L c 65 (s.cells b)) (h : Hid (Own W0 w L)) (hf : s.Fits) (n : Int) :
    Calls Tryz.prog 162 #[.pointer (some ⟨c, 0, none⟩), .int .i64 n] w fun e w' => e = .returned (.int .u8 (s.own n : Int)) ∧ Below w.heap.size w w' := by
  have HC := Lib.hid (h.out.cells_at hs)
  have HF := Lib.hid hf
  clear hs h hf
  have HM := Lib.hid (Own.start w)
  go_enter Tryz.func162, Tryz.ntmps162
  go_wp2_with (first | ((with_reducible apply own_old HM); exact rfl; exact rfl; exact wS; exact HC.out _ _ rfl; exact rfl; exact rfl) | ((with_reducible apply own_oldrow HM); exact rfl; exact rfl; (with_reducible exact aggR); exact HC.out; exact Cs.drop0 _ _; exact Cs.take29 _ _; exact rfl) | (go_at_call 145; (with_reducible refine (regOne_at0 _ HF.out.r _ _ (Lib.hid rfl) _).mono ?_); rintro e w' ⟨rfl, hb⟩; replace HM := Lib.hid (HM.out.call hb); clear hb))
  go_ret
  exact ⟨rfl, Own.fin HM⟩
set_option maxRecDepth 100000 in
set_option maxHeartbeats 400000 in
theorem either_near {W0 w : World} {c b : Nat} {s : Cs} {L : Blocks} (hs : Sel L c 65 (s.cells b)) (h : Hid (Own W0 w L)) (hf : s.Fits) (hp : s.px = 0) (k j : Int) :
    Calls Tryz.prog 163 #[.pointer (some ⟨c, 0, none⟩), .int .i64 k, .int .i64 j] w fun e w' => e = .returned (.int .i64 k) ∧ Below w.heap.size w w' := by
  have HC := Lib.hid (h.out.cells_at hs)
  have HF := Lib.hid hf
  clear hs h hf
  have HM := Lib.hid (Own.start w)
  have hp' : ((s.px : Int) == 0) = true := by simp; omega
  clear hp
  go_enter Tryz.func163, Tryz.ntmps163
  go_wp2_with (first | ((with_reducible apply own_old HM); exact rfl; exact rfl; exact wS; exact HC.out _ _ rfl; exact rfl; exact rfl) | ((with_reducible apply own_oldrow HM); exact rfl; exact rfl; (with_reducible exact aggR); exact HC.out; exact Cs.drop0 _ _; exact Cs.take29 _ _; exact rfl))
  go_ret
  exact ⟨rfl, Own.fin HM⟩
set_option maxRecDepth 100000 in
set_option maxHeartbeats 400000 in
theorem either_far {W0 w : World} {c b : Nat} {s : Cs} {L : Blocks} (hs : Sel L c 65 (s.cells b)) (h : Hid (Own W0 w L)) (hf : s.Fits) (hp : ¬ s.px = 0) (k j : Int) :
    Calls Tryz.prog 163 #[.pointer (some ⟨c, 0, none⟩), .int .i64 k, .int .i64 j] w fun e w' => e = .returned (.int .i64 j) ∧ Below w.heap.size w w' := by
  have HC := Lib.hid (h.out.cells_at hs)
  have HF := Lib.hid hf
  clear hs h hf
  have HM := Lib.hid (Own.start w)
  have hp' : ((s.px : Int) == 0) = false := by simp; omega
  clear hp
  go_enter Tryz.func163, Tryz.ntmps163
  go_wp2_with (first | ((with_reducible apply own_old HM); exact rfl; exact rfl; exact wS; exact HC.out _ _ rfl; exact rfl; exact rfl) | ((with_reducible apply own_oldrow HM); exact rfl; exact rfl; (with_reducible exact aggR); exact HC.out; exact Cs.drop0 _ _; exact Cs.take29 _ _; exact rfl))
  go_ret
  exact ⟨rfl, Own.fin HM⟩
end Go.Proofs.YtljjgakfnajifaaGreatDoor
namespace Go.Proofs.YtljjgakfnajifaaGreatDoor
open Go.RowKit
theorem rd_at {W0 w : World} {c b n : Nat} {s : Cs} {l : Blocks} (a : Nat) (ha : a < 65536) (h : Hid (Co W0 w c b s l (n + 1))) :
    Calls Tryz.prog 260 #[.pointer (some ⟨b, 0, none⟩), .int .u16 (a : Int)] w fun e w' => e = .returned (.int .u8 (s.m a : Int)) ∧ Hid (Co W0 w' c b (s.rd a) l n) :=
  (box_read a ha (Lib.hid h.out.bx)).mono fun _ _ ⟨he, hb⟩ => ⟨he, Lib.hid ⟨⟨h.out.fits.r, h.out.fits.px, hb.out.good.m8⟩, hb.out⟩⟩
theorem wr_at {W0 w : World} {c b n : Nat} {s : Cs} {l : Blocks} (a v : Nat) (ha : a < 65536) (hv : v < 256) (h : Hid (Co W0 w c b s l (n + 1))) :
    Calls Tryz.prog 261 #[.pointer (some ⟨b, 0, none⟩), .int .u16 (a : Int), .int .u8 (v : Int)] w fun e w' => e = .returned (.tuple #[]) ∧ Hid (Co W0 w' c b (s.wr a v) l n) :=
  (box_write a v ha hv (Lib.hid h.out.bx)).mono fun _ _ ⟨he, hb⟩ => ⟨he, Lib.hid ⟨⟨h.out.fits.r, h.out.fits.px, hb.out.good.m8⟩, hb.out⟩⟩
theorem op_at {W0 w : World} {c b n : Nat} {s : Cs} {l : Blocks} (p v t : Nat) (hp : p < 65536) (hv : v < 256) (ht : t < 64) (h : Hid (Co W0 w c b s l (n + 1))) :
    Calls Tryz.prog 259 #[.pointer (some ⟨b, 0, none⟩), .int .u16 (p : Int), .int .u8 (v : Int), .int .i64 (t : Int)] w fun e w' => e = .returned (.tuple #[]) ∧ Hid (Co W0 w' c b (s.op p v t) l n) :=
  (box_out p v t hp hv ht (Lib.hid h.out.bx)).mono fun _ _ ⟨he, hb⟩ => ⟨he, Lib.hid ⟨⟨h.out.fits.r, h.out.fits.px, hb.out.good.m8⟩, hb.out⟩⟩
theorem ip_at {W0 w : World} {c b n : Nat} {s : Cs} {l : Blocks} (p t : Nat) (hp : p < 65536) (ht : t < 64) (h : Hid (Co W0 w c b s l (n + 1))) :
    Calls Tryz.prog 258 #[.pointer (some ⟨b, 0, none⟩), .int .u16 (p : Int), .int .i64 (t : Int)] w fun e w' => e = .returned (.int .u8 (s.ipV p t : Int)) ∧ Hid (Co W0 w' c b (s.ip p t) l n) :=
  (box_in p t hp ht (Lib.hid h.out.bx)).mono fun _ _ ⟨he, hb⟩ => ⟨he, Lib.hid ⟨⟨h.out.fits.r, h.out.fits.px, hb.out.good.m8⟩, hb.out⟩⟩
end Go.Proofs.YtljjgakfnajifaaGreatDoor
namespace Go.Proofs.YtljjgakfnajifaaGreatDoor
open Go.RowKit
set_option maxRecDepth 100000 in
set_option maxHeartbeats 400000 in
theorem next_at {W0 w : World} {c b n : Nat} {s : Cs} {l : Blocks} (h : Hid (Co W0 w c b s l (n + 1))) :
    Calls Tryz.prog 78 #[.pointer (some ⟨c, 0, none⟩)] w fun e w' => e = .returned (.int .u8 (s.nextV : Int)) ∧ Hid (Co W0 w' c b (s.next) l n) := by
  obtain ⟨hf, hg, X, hX, hO⟩ := h.out.out
  have HF := Lib.hid hf
  have HF0 := Lib.hid hf
  have HG := Lib.hid hg
  have HX := Lib.hid hX
  have HM := Lib.hid hO
  have h1 : s.r.pc < 65536 := hf.r.pc
  clear h hf hg hX hO
  have hmRead : ∀ w : World, (method 309 28 (.pointer (some ⟨b, 0, none⟩)) "Read").run Tryz.prog w = .ok (260, .pointer (some ⟨b, 0, none⟩)) w := fun _ => by kernel_rfl
  go_enter Tryz.func78, Tryz.ntmps78
  go_upto_region 1 with fail
  (refine own_tail 11 HM (by kernel_rfl) (by kernel_rfl) (by kernel_rfl) ?_; simp only [List.take_succ_cons, List.take_zero, List.drop_succ_cons, List.drop_zero]; (try simp only [Act.put, List.setIfInBounds_toArray, List.set_cons_zero, List.set_cons_succ]); repeat ((fail_if_success (with_reducible refine wpQuiet_nil ?_)); first | go_big_quiet_skip | (go_big_quiet_want; first | ((with_reducible apply quiet_get); exact rfl; exact wS; exact sS; exact rfl; go_big_quiet_op; go_big_quiet_on) | ((with_reducible apply quiet_load); exact rfl; (with_reducible exact aggR); exact sS; exact Cs.drop0 _ _; exact Cs.take29 _ _; go_big_quiet_op; go_big_quiet_on) | (go_big_quiet_op; go_big_quiet_on) | (go_big_quiet_op; refine ⟨_, fun _ _ => rfl, ?_⟩; go_big_quiet_on))))
  refine wpQuiet_nil ?_
  intro w' HM'
  clear HM; have HM := HM'; clear HM'
  go_wp2_with (first
    | ((with_reducible apply cgY HM); exact cgS) | ((with_reducible apply cpY HM); exact cpS; clear HM; intro w' HM) | ((with_reducible apply crY HM); exact crS) | ((with_reducible apply clY HM); exact clS; clear HM; intro w' HM)
    | (go_at_call 260; have hco := Lib.hid (Co.ok HM.out HG.out HX.out); (with_reducible refine (rd_at _ h1 hco).mono ?_); clear hco; rintro e w' ⟨rfl, hc⟩; clear HM HF HG HX; obtain ⟨X, HF, HG, HX, HM⟩ := hc.out.hid; clear hc))
  go_ret
  have hco := Co.ok HM.out HG.out HX.out
  exact ⟨rfl, Lib.hid hco⟩
set_option maxRecDepth 100000 in
set_option maxHeartbeats 400000 in
theorem ctick_at {W0 w : World} {c b n : Nat} {s : Cs} {l : Blocks} (h : Hid (Co W0 w c b s l (n))) :
    Calls Tryz.prog 43 #[.pointer (some ⟨c, 0, none⟩)] w fun e w' => e = .returned (.tuple #[]) ∧ Hid (Co W0 w' c b (s.tick) l n) := by
  obtain ⟨hf, hg, X, hX, hO⟩ := h.out.out
  have HF := Lib.hid hf
  have HF0 := Lib.hid hf
  have HG := Lib.hid hg
  have HX := Lib.hid hX
  have HM := Lib.hid hO
  clear h hf hg hX hO
  go_enter Tryz.func43, Tryz.ntmps43
  go_wp2_with (first
    | ((with_reducible apply cgY HM); exact cgS) | ((with_reducible apply cpY HM); exact cpS; clear HM; intro w' HM) | ((with_reducible apply crY HM); exact crS) | ((with_reducible apply clY HM); exact clS; clear HM; intro w' HM)
    | (go_at_call 77; (with_reducible refine (tick_at _ HF.out.r.r _).mono ?_); rintro e w' ⟨rfl, hb⟩; replace HM := Lib.hid (HM.out.call hb); clear hb))
  go_end0
  have hco := fun hf => Co.made HM.out HG.out HX.out hf
  exact ⟨rfl, Lib.hid (hco (Cs.tick_fits HF.out))⟩
set_option maxRecDepth 100000 in
set_option maxHeartbeats 400000 in
theorem fetch_at {W0 w : World} {c b n : Nat} {s : Cs} {l : Blocks} (h : Hid (Co W0 w c b s l (n + 1))) :
    Calls Tryz.prog 44 #[.pointer (some ⟨c, 0, none⟩)] w fun e w' => e = .returned (.int .u8 (s.nextV : Int)) ∧ Hid (Co W0 w' c b (s.fetch) l n) := by
  obtain ⟨hf, hg, X, hX, hO⟩ := h.out.out
  have HF := Lib.hid hf
  have HF0 := Lib.hid hf
  have HG := Lib.hid hg
  have HX := Lib.hid hX
  have HM := Lib.hid hO
  clear h hf hg hX hO
  go_enter Tryz.func44, Tryz.ntmps44
  go_wp2_with (first
    | ((with_reducible apply cgY HM); exact cgS) | ((with_reducible apply cpY HM); exact cpS; clear HM; intro w' HM) | ((with_reducible apply crY HM); exact crS) | ((with_reducible apply clY HM); exact clS; clear HM; intro w' HM)
    | (go_at_call 78; have hco := Lib.hid (Co.ok HM.out HG.out HX.out); (with_reducible refine (next_at hco).mono ?_); clear hco; rintro e w' ⟨rfl, hc⟩; clear HM HF HG HX; obtain ⟨X, HF, HG, HX, HM⟩ := hc.out.hid; clear hc)
    | (go_at_call 43; have hco := Lib.hid (Co.ok HM.out HG.out HX.out); (with_reducible refine (ctick_at (n := n) hco).mono ?_); clear hco; rintro e w' ⟨rfl, hc⟩; clear HM HF HG HX; obtain ⟨X, HF, HG, HX, HM⟩ := hc.out.hid; clear hc))
  go_ret
  have hco := Co.ok HM.out HG.out HX.out
  exact ⟨rfl, Lib.hid hco⟩
set_option maxRecDepth 100000 in
set_option maxHeartbeats 400000 in
theorem number_at {W0 w : World} {c b n : Nat} {s : Cs} {l : Blocks} (a : Nat) (ha : a < 65536) (h : Hid (Co W0 w c b s l (n + 2))) :
    Calls Tryz.prog 95 #[.pointer (some ⟨c, 0, none⟩), .int .u16 (a : Int)] w fun e w' => e = .returned (.int .u16 (s.numV a : Int)) ∧ Hid (Co W0 w' c b (s.num a) l n) := by
  obtain ⟨hf, hg, X, hX, hO⟩ := h.out.out
  have HF := Lib.hid hf
  have HF0 := Lib.hid hf
  have HG := Lib.hid hg
  have HX := Lib.hid hX
  have HM := Lib.hid hO
  have h1 : s.m a < 256 := hf.m a
  have h2 : (s.rd a).m (up1 a) < 256 := hf.m _
  have e1 : IntKind.u16.wrap ((a : Int) + 1) = ((up1 a : Nat) : Int) := by unfold up1; show ((a : Int) + 1) % 65536 = _; omega
  clear h hf hg hX hO
  have hmRead : ∀ w : World, (method 309 28 (.pointer (some ⟨b, 0, none⟩)) "Read").run Tryz.prog w = .ok (260, .pointer (some ⟨b, 0, none⟩)) w := fun _ => by kernel_rfl
  go_enter Tryz.func95, Tryz.ntmps95
  go_wp2_with (first
    | ((with_reducible apply cgY HM); exact cgS) | ((with_reducible apply cpY HM); exact cpS; clear HM; intro w' HM) | ((with_reducible apply crY HM); exact crS) | ((with_reducible apply clY HM); exact clS; clear HM; intro w' HM)
    | (go_at_call 260; have hco := Lib.hid (Co.ok HM.out HG.out HX.out); (with_reducible refine (rd_at a ha hco).mono ?_); clear hco; rintro e w' ⟨rfl, hc⟩; clear HM HF HG HX; obtain ⟨X, HF, HG, HX, HM⟩ := hc.out.hid; clear hc)
    | (go_at_call 260; have hco := Lib.hid (Co.ok HM.out HG.out HX.out); (with_reducible refine (rd_at (up1 a) (up1_lt a) hco).mono ?_); clear hco; rintro e w' ⟨rfl, hc⟩; clear HM HF HG HX; obtain ⟨X, HF, HG, HX, HM⟩ := hc.out.hid; clear hc)
    | (go_at_call 96; (with_reducible refine (join_at _ _ _ h2 h1 (Lib.hid rfl) _).mono ?_); rintro e w' ⟨rfl, rfl⟩))
  go_ret
  have hco := Co.ok HM.out HG.out HX.out
  exact ⟨rfl, Lib.hid hco⟩
set_option maxRecDepth 100000 in
set_option maxHeartbeats 400000 in
theorem nextNumber_at {W0 w : World} {c b n : Nat} {s : Cs} {l : Blocks} (h : Hid (Co W0 w c b s l (n + 2))) :
    Calls Tryz.prog 153 #[.pointer (some ⟨c, 0, none⟩)] w fun e w' => e = .returned (.int .u16 (s.nextNumV : Int)) ∧ Hid (Co W0 w' c b (s.nextNum) l n) := by
  obtain ⟨hf, hg, X, hX, hO⟩ := h.out.out
  have HF := Lib.hid hf
  have HF0 := Lib.hid hf
  have HG := Lib.hid hg
  have HX := Lib.hid hX
  have HM := Lib.hid hO
  have h1 : s.r.pc < 65536 := hf.r.pc
  have h2 : (s.r.pc + 2) % 65536 < 65536 := Nat.mod_lt _ (by decide)
  clear h hf hg hX hO
  go_enter Tryz.func153, Tryz.ntmps153
  go_wp2_with (first
    | ((with_reducible apply cgY HM); exact cgS) | ((with_reducible apply cpY HM); exact cpS; clear HM; intro w' HM) | ((with_reducible apply crY HM); exact crS) | ((with_reducible apply clY HM); exact clS; clear HM; intro w' HM)
    | (go_at_call 95; have hco := Lib.hid (Co.ok HM.out HG.out HX.out); (with_reducible refine (number_at _ h1 hco).mono ?_); clear hco; rintro e w' ⟨rfl, hc⟩; clear HM HF HG HX; obtain ⟨X, HF, HG, HX, HM⟩ := hc.out.hid; clear hc))
  go_ret
  have hco := Co.ok HM.out HG.out HX.out
  exact ⟨rfl, Lib.hid hco⟩
set_option maxRecDepth 100000 in
set_option maxHeartbeats 400000 in
theorem setNumber_at {W0 w : World} {c b n : Nat} {s : Cs} {l : Blocks} (a v : Nat) (ha : a < 65536) (hv : v < 65536) (h : Hid (Co W0 w c b s l (n + 2))) :
    Calls Tryz.prog 194 #[.pointer (some ⟨c, 0, none⟩), .int .u16 (a : Int), .int .u16 (v : Int)] w fun e w' => e = .returned (.tuple #[]) ∧ Hid (Co W0 w' c b (s.setNum a v) l n) := by
  obtain ⟨hf, hg, X, hX, hO⟩ := h.out.out
  have HF := Lib.hid hf
  have HF0 := Lib.hid hf
  have HG := Lib.hid hg
  have HX := Lib.hid hX
  have HM := Lib.hid hO
  obtain ⟨lo, hlo⟩ : ∃ x, Hid (v % 256 = x) := ⟨_, rfl⟩
  obtain ⟨hi, hhi⟩ : ∃ x, Hid (wHigh v = x) := ⟨_, rfl⟩
  have h1 : lo < 256 := by rw [← hlo.out]; exact Nat.mod_lt _ (by decide)
  have h2 : hi < 256 := by rw [← hhi.out]; exact wHigh_lt v hv
  have E : s.setNum a v = (s.wr a lo).wr (up1 a) hi := by unfold Cs.setNum; rw [hlo.out, hhi.out]
  rw [E]
  have e1 : IntKind.u16.wrap ((a : Int) + 1) = ((up1 a : Nat) : Int) := by unfold up1; show ((a : Int) + 1) % 65536 = _; omega
  clear E h hf hg hX hO
  have hmWrite : ∀ w : World, (method 309 28 (.pointer (some ⟨b, 0, none⟩)) "Write").run Tryz.prog w = .ok (261, .pointer (some ⟨b, 0, none⟩)) w := fun _ => by kernel_rfl
  go_enter Tryz.func194, Tryz.ntmps194
  go_wp2_with (first
    | ((with_reducible apply cgY HM); exact cgS) | ((with_reducible apply cpY HM); exact cpS; clear HM; intro w' HM) | ((with_reducible apply crY HM); exact crS) | ((with_reducible apply clY HM); exact clS; clear HM; intro w' HM)
    | (go_at_call 141; (with_reducible refine (split_at v hi lo hv hhi hlo _).mono ?_); rintro e w' ⟨rfl, rfl⟩)
    | (go_at_call 261; have hco := Lib.hid (Co.ok HM.out HG.out HX.out); (with_reducible refine (wr_at _ _ ha h1 hco).mono ?_); clear hco; rintro e w' ⟨rfl, hc⟩; clear HM HF HG HX; obtain ⟨X, HF, HG, HX, HM⟩ := hc.out.hid; clear hc)
    | (go_at_call 261; have hco := Lib.hid (Co.ok HM.out HG.out HX.out); (with_reducible refine (wr_at _ _ (up1_lt a) h2 hco).mono ?_); clear hco; rintro e w' ⟨rfl, hc⟩; clear HM HF HG HX; obtain ⟨X, HF, HG, HX, HM⟩ := hc.out.hid; clear hc))
  go_end0
  have hco := Co.ok HM.out HG.out HX.out
  exact ⟨rfl, Lib.hid hco⟩
set_option maxRecDepth 100000 in
set_option maxHeartbeats 400000 in
theorem push_at {W0 w : World} {c b n : Nat} {s : Cs} {l : Blocks} (v : Nat) (hv : v < 65536) (h : Hid (Co W0 w c b s l (n + 2))) :
    Calls Tryz.prog 93 #[.pointer (some ⟨c, 0, none⟩), .int .u16 (v : Int)] w fun e w' => e = .returned (.tuple #[]) ∧ Hid (Co W0 w' c b (s.push v) l n) := by
  obtain ⟨hf, hg, X, hX, hO⟩ := h.out.out
  have HF := Lib.hid hf
  have HF0 := Lib.hid hf
  have HG := Lib.hid hg
  have HX := Lib.hid hX
  have HM := Lib.hid hO
  obtain ⟨lo, hlo⟩ : ∃ x, Hid (v % 256 = x) := ⟨_, rfl⟩
  obtain ⟨hi, hhi⟩ : ∃ x, Hid (wHigh v = x) := ⟨_, rfl⟩
  have h1 : lo < 256 := by rw [← hlo.out]; exact Nat.mod_lt _ (by decide)
  have h2 : hi < 256 := by rw [← hhi.out]; exact wHigh_lt v hv
  obtain ⟨p, hp⟩ : ∃ x, Hid (dn1 s.r.sp = x) := ⟨_, rfl⟩
  obtain ⟨q, hq⟩ : ∃ x, Hid (dn1 p = x) := ⟨_, rfl⟩
  have p1 : p < 65536 := by rw [← hp.out]; exact dn1_lt _
  have q1 : q < 65536 := by rw [← hq.out]; exact dn1_lt _
  have E : s.push v = (((s.setSP p).wr p hi).setSP q).wr q lo := by unfold Cs.push; rw [hlo.out, hhi.out, hp.out, hq.out]
  rw [E]
  have e1 : IntKind.u16.wrap ((s.r.sp : Int) - 1) = (p : Int) := by rw [← hp.out]; unfold dn1; show ((s.r.sp : Int) - 1) % 65536 = _; omega
  have e2 : IntKind.u16.wrap ((((s.setSP p).wr p hi).r.sp : Int) - 1) = (q : Int) := by rw [← hq.out]; show IntKind.u16.wrap ((p : Int) - 1) = _; unfold dn1; show ((p : Int) - 1) % 65536 = _; omega
  clear E h hf hg hX hO
  have hmWrite : ∀ w : World, (method 309 28 (.pointer (some ⟨b, 0, none⟩)) "Write").run Tryz.prog w = .ok (261, .pointer (some ⟨b, 0, none⟩)) w := fun _ => by kernel_rfl
  go_enter Tryz.func93, Tryz.ntmps93
  go_upto_region 2 with (first
    | ((with_reducible apply cgY HM); exact cgS) | ((with_reducible apply cpY HM); exact cpS; clear HM; intro w' HM) | ((with_reducible apply crY HM); exact crS) | ((with_reducible apply clY HM); exact clS; clear HM; intro w' HM)
    | (go_at_call 141; (with_reducible refine (split_at v hi lo hv hhi hlo _).mono ?_); rintro e w' ⟨rfl, rfl⟩))
  (refine own_tail 12 HM (by kernel_rfl) (by kernel_rfl) (by kernel_rfl) ?_; simp only [List.take_succ_cons, List.take_zero, List.drop_succ_cons, List.drop_zero]; (try simp only [Act.put, List.setIfInBounds_toArray, List.set_cons_zero, List.set_cons_succ]); repeat ((fail_if_success (with_reducible refine wpQuiet_nil ?_)); first | go_big_quiet_skip | (go_big_quiet_want; first | ((with_reducible apply quiet_get); exact rfl; exact wS; exact sS; exact rfl; go_big_quiet_op; go_big_quiet_on) | ((with_reducible apply quiet_load); exact rfl; (with_reducible exact aggR); exact sS; exact Cs.drop0 _ _; exact Cs.take29 _ _; go_big_quiet_op; go_big_quiet_on) | (go_big_quiet_op; go_big_quiet_on) | (go_big_quiet_op; refine ⟨_, fun _ _ => rfl, ?_⟩; go_big_quiet_on))))
  refine wpQuiet_nil ?_
  intro w' HM'
  clear HM; have HM := HM'; clear HM'
  go_upto_region 4 with (first
    | ((with_reducible apply cgY HM); exact cgS) | ((with_reducible apply cpY HM); exact cpS; clear HM; intro w' HM) | ((with_reducible apply crY HM); exact crS) | ((with_reducible apply clY HM); exact clS; clear HM; intro w' HM)
    | (go_at_call 261; have hco := Lib.hid (Co.ok HM.out HG.out HX.out); (with_reducible refine (wr_at _ _ p1 h2 hco).mono ?_); clear hco; rintro e w' ⟨rfl, hc⟩; clear HM HF HG HX; obtain ⟨X, HF, HG, HX, HM⟩ := hc.out.hid; clear hc))
  (refine own_tail 12 HM (by kernel_rfl) (by kernel_rfl) (by kernel_rfl) ?_; simp only [List.take_succ_cons, List.take_zero, List.drop_succ_cons, List.drop_zero]; (try simp only [Act.put, List.setIfInBounds_toArray, List.set_cons_zero, List.set_cons_succ]); repeat ((fail_if_success (with_reducible refine wpQuiet_nil ?_)); first | go_big_quiet_skip | (go_big_quiet_want; first | ((with_reducible apply quiet_get); exact rfl; exact wS; exact sS; exact rfl; go_big_quiet_op; go_big_quiet_on) | ((with_reducible apply quiet_load); exact rfl; (with_reducible exact aggR); exact sS; exact Cs.drop0 _ _; exact Cs.take29 _ _; go_big_quiet_op; go_big_quiet_on) | (go_big_quiet_op; go_big_quiet_on) | (go_big_quiet_op; refine ⟨_, fun _ _ => rfl, ?_⟩; go_big_quiet_on))))
  refine wpQuiet_nil ?_
  intro w' HM'
  clear HM; have HM := HM'; clear HM'
  go_wp2_with (first
    | ((with_reducible apply cgY HM); exact cgS) | ((with_reducible apply cpY HM); exact cpS; clear HM; intro w' HM) | ((with_reducible apply crY HM); exact crS) | ((with_reducible apply clY HM); exact clS; clear HM; intro w' HM)
    | (go_at_call 261; have hco := Lib.hid (Co.ok HM.out HG.out HX.out); (with_reducible refine (wr_at _ _ q1 h1 hco).mono ?_); clear hco; rintro e w' ⟨rfl, hc⟩; clear HM HF HG HX; obtain ⟨X, HF, HG, HX, HM⟩ := hc.out.hid; clear hc))
  go_end0
  have hco := Co.ok HM.out HG.out HX.out
  exact ⟨rfl, Lib.hid hco⟩
end Go.Proofs.YtljjgakfnajifaaGreatDoor
namespace Go.Proofs.YtljjgakfnajifaaGreatDoor
open Go.RowKit
theorem aggParts : Agg Tryz.prog 90 5 := ⟨⟨_, Tryz.underlying90, rfl⟩, by kernel_rfl⟩
theorem zeroParts : Zero Tryz.prog 90 [.int .i64 0, .int .i64 0, .int .i64 0, .int .i64 0, .int .i64 0] := ⟨.agg #[.int .i64 0, .int .i64 0, .int .i64 0, .int .i64 0, .int .i64 0], fun _ => by kernel_rfl, rfl⟩
section
variable {W0 w : World} {l : Blocks} {ops : Array Oper} {rest : List Oper} {o : Oper} {a : Act} {Q : Exit → Act → World → Prop} {t : TypeId} {x : Operand} {v : Value} {g off : Nat} {cs r vs : List Value} {e : Nat × TypeId × List Value}
theorem own_cell1 (HM : Hid (Own W0 w (e :: (g, t, cs) :: l))) (ho : o.op = .load 3 x) (hx : a.eval x = .pointer (some ⟨g, off, none⟩)) (hd : Drop cs off (v :: r)) (hw : Region.wanted o (yielded ops a.tmps) = true)
    (h : wpList Tryz.prog ops Q rest (a.put o.dst v) w) : wpList Tryz.prog ops Q (o :: rest) a w := own_cell HM ho hx oneInt (.s .z) hd hw h
theorem own_load1 (HM : Hid (Own W0 w (e :: (g, t, cs) :: l))) (ho : o.op = .load 90 x) (hx : a.eval x = .pointer (some ⟨g, 0, none⟩)) (ht : Take cs 5 vs) (hw : Region.wanted o (yielded ops a.tmps) = true)
    (h : wpList Tryz.prog ops Q rest (a.put o.dst (.agg vs.toArray)) w) : wpList Tryz.prog ops Q (o :: rest) a w := own_load HM ho hx aggParts (.s .z) .z ht hw h
end
theorem u8_low3 (n : Nat) (hn : n < 256) : bits .and .u8 (n : Int) 7 = ((n % 8 : Nat) : Int) := by
  have h := u8_and n 7 (by omega) (by omega) (by omega) (by omega)
  rw [h]
  have e : (Int.toNat (n : Int)) &&& (Int.toNat 7) = n % 8 := by
    rw [Int.toNat_natCast]; exact Nat.and_two_pow_sub_one_eq_mod n 3
  exact congrArg Nat.cast e
set_option maxRecDepth 100000 in
set_option maxHeartbeats 1600000 in
theorem parts_at (n x y z p q : Nat) (hn : n < 256) (hx : Hid (n / 64 = x)) (hy : Hid (n / 8 % 8 = y)) (hz : Hid (n % 8 = z)) (hp : Hid (n / 8 % 8 / 2 = p)) (hq : Hid (n / 8 % 8 % 2 = q)) (w : World) : Calls Tryz.prog 46 #[.int .u8 (n : Int)] w fun e w' => e = .returned (.agg #[.int .i64 (x : Int), .int .i64 (y : Int), .int .i64 (z : Int), .int .i64 (p : Int), .int .i64 (q : Int)]) ∧ Below w.heap.size w w' := by
  replace hx := hx.out
  replace hy := hy.out
  replace hz := hz.out
  replace hp := hp.out
  replace hq := hq.out
  obtain ⟨m, hm⟩ : ∃ m, m = n / 8 := ⟨_, rfl⟩
  have a1 : bits .and .u8 (n : Int) 7 = (z : Int) := by rw [u8_low3 n hn, hz]
  have a2 : bits .and .u8 (m : Int) 7 = (y : Int) := by rw [u8_low3 m (by omega), hm, hy]
  have a3 : bits .and .i64 (y : Int) 1 = (q : Int) := by rw [i64_low1]; omega
  have d1 : (n : Int) / 8 = (m : Int) := by omega
  have d2 : (n : Int) / 64 = (x : Int) := by omega
  have d3 : (y : Int) / 2 = (p : Int) := by omega
  have y8 : (y : Int) < 8 := by omega
  have m8 : (m : Int) < 32 := by omega
  have n8 : (n : Int) < 256 := by omega
  have x8 : (x : Int) < 4 := by omega
  have z8 : (z : Int) < 8 := by omega
  clear hx hm hy hz hp hq hn
  have HM := Lib.hid (Own.start w)
  have tg1 : Hid True := trivial
  go_enter Tryz.func46, Tryz.ntmps46
  go_wp2_with (first
    | ((with_reducible apply own_box HM); exact rfl; (conv => lhs; whnf); exact rfl; exact rfl; (first | (clear tg1 HM; intro w' g1 HM) | (clear tg2 HM; intro w' g2 HM) | (clear tg3 HM; intro w' g3 HM) | (clear tg4 HM; intro w' g4 HM) | (clear HM; intro w' g' HM))) | ((with_reducible apply own_alloc HM); exact rfl; (first | (with_reducible exact zeroParts)); exact rfl; (first | (clear tg1 HM; intro w' g1 HM) | (clear tg2 HM; intro w' g2 HM) | (clear tg3 HM; intro w' g3 HM) | (clear tg4 HM; intro w' g4 HM) | (clear HM; intro w' g' HM))) | ((with_reducible apply own_cell HM); exact rfl; exact rfl; (first | (with_reducible exact oneInt)); exact sS; exact dS; exact rfl) | ((with_reducible apply own_load HM); exact rfl; exact rfl; (first | (with_reducible exact aggParts)); exact sS; exact dS; exact tS; exact rfl) | ((with_reducible apply own_store HM); exact rfl; exact rfl; (conv => lhs; whnf); exact rfl; exact sS; exact vS; exact sS; (first | (with_reducible exact (aggParts).size) | (with_reducible exact (oneInt).size)); exact rfl; exact rfl; exact rfl; exact rfl; clear HM; intro w' HM))
  refine bodyPost_ret (v := .agg #[.int .i64 (x : Int), .int .i64 (y : Int), .int .i64 (z : Int), .int .i64 (p : Int), .int .i64 (q : Int)]) (own_results HM Tryz.results46 _ rfl (by first | exact .z | exact .s .z) aggParts) rfl ⟨rfl, Own.fin HM⟩
end Go.Proofs.YtljjgakfnajifaaGreatDoor
