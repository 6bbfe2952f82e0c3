import Derived.Test.YtljjgakfnajifaaGreatDoorZCpuPorts
import Derived.Deep.Cut
import Derived.Deep.RegionHeld3
import Derived.Deep.CutRange
namespace Go.Proofs.YtljjgakfnajifaaGreatDoor
open Go.RowKit
theorem cwhen_at (on : Bool) (r : Nat) (hr : Hid (cond on (4 : Nat) 0 = r)) (w : World) : Calls Tryz.prog 227 #[.bool on, .int .u8 4] w fun e w' => e = .returned (.int .u8 (r : Int)) ∧ w = w' := by
  cases on
  · have e : (0 : Int) = (r : Int) := by rw [← hr.out]; rfl
    go_enter Tryz.func227, Tryz.ntmps227
    go_wp2_with fail
    go_ret
    exact ⟨by rw [← e]; rfl, rfl⟩
  · have e : (4 : Int) = (r : Int) := by rw [← hr.out]; rfl
    go_enter Tryz.func227, Tryz.ntmps227
    go_wp2_with fail
    go_ret
    exact ⟨by rw [← e]; rfl, rfl⟩
def comeF (v : Nat) (p : Bool) (f : Nat) : Nat := nByte (nS v) (nZ v) (nBit 32 v) false (nBit 8 v) p false (nBit 1 f)
theorem come_bits (v : Nat) (p : Bool) (f : Nat) (hf : f < 256) : ((nShape v ||| cond p 4 0) ||| (f &&& 1)) = comeF v p f := by
  rw [one_bit f hf]
  unfold nShape comeF
  generalize nS v = a; generalize nZ v = b; generalize nBit 32 v = c; generalize nBit 8 v = d; generalize nBit 1 f = e
  revert a b c d e p
  decide +kernel
set_option maxRecDepth 100000 in
set_option maxHeartbeats 400000 in
theorem shapeWith_at {W0 w : World} {c b n : Nat} {s : Cs} {l : Blocks} (v : Nat) (p : Bool) (hv : v < 256) (h : Hid (Co W0 w c b s l (n))) :
    Calls Tryz.prog 190 #[.pointer (some ⟨c, 0, none⟩), .int .u8 (v : Int), .bool p] w fun e w' => e = .returned (.tuple #[]) ∧ Hid (Co W0 w' c b (s.setF (comeF v p s.r.f)) l n) := by
  obtain ⟨hf, hg, X, hX, hO⟩ := h.out.out
  have HF := Lib.hid hf
  have HF0 := Lib.hid hf
  have HG := Lib.hid hg
  have HX := Lib.hid hX
  have HM := Lib.hid hO
  have f1 : s.r.f < 256 := hf.r.f
  obtain ⟨S, hS⟩ : ∃ x, Hid (nShape v = x) := ⟨_, rfl⟩
  obtain ⟨K, hK⟩ : ∃ x, Hid (cond p (4 : Nat) 0 = x) := ⟨_, rfl⟩
  obtain ⟨L, hL⟩ : ∃ x, x = s.r.f &&& 1 := ⟨_, rfl⟩
  obtain ⟨M, hM⟩ : ∃ x, x = S ||| K := ⟨_, rfl⟩
  obtain ⟨N, hN⟩ : ∃ x, Hid (comeF v p s.r.f = x) := ⟨_, rfl⟩
  have S1 : S < 256 := by rw [← hS.out]; exact nByte_lt _ _ _ _ _ _ _ _
  have K1 : K < 256 := by rw [← hK.out]; cases p <;> decide
  have L1 : L < 256 := by rw [hL]; exact and8 f1
  have M1 : M < 256 := by rw [hM]; exact or8 S1 K1
  have N1 : N < 256 := by rw [← hN.out]; exact nByte_lt _ _ _ _ _ _ _ _
  have e1 : bits .and .u8 (s.r.f : Int) 1 = (L : Int) := by rw [u8_and _ 1 (by omega) (by omega) (by omega) (by omega), Int.toNat_natCast, hL]; rfl
  have e2 : bits .or .u8 (S : Int) (K : Int) = (M : Int) := by rw [u8_or_nat S K S1 K1, hM]
  have e3 : bits .or .u8 (M : Int) (L : Int) = (N : Int) := by rw [u8_or_nat M L M1 L1, ← hN.out, ← come_bits v p s.r.f f1, hM, hL, hS.out, hK.out]
  rw [hN.out]
  clear hL hM
  clear h hf hg hX hO
  go_enter Tryz.func190, Tryz.ntmps190
  (refine own_tail 13 HM (by kernel_rfl) (by kernel_rfl) (by kernel_rfl) ?_; simp only [List.take_succ_cons, List.take_zero, List.drop_succ_cons, List.drop_zero]; (try simp only [Act.put, List.setIfInBounds_toArray, List.set_cons_zero, List.set_cons_succ]); repeat ((fail_if_success (with_reducible refine wpQuiet_nil ?_)); first | go_big_quiet_skip | (go_big_quiet_want; first | ((with_reducible apply quiet_get); exact rfl; exact wS; exact sS; exact rfl; go_big_quiet_op; go_big_quiet_on) | ((with_reducible apply quiet_load); exact rfl; (with_reducible exact aggR); exact sS; exact Cs.drop0 _ _; exact Cs.take29 _ _; go_big_quiet_op; go_big_quiet_on) | ((with_reducible apply quiet_call); exact fun w => rfl; (focus (go_simp; all_goals with_reducible rfl)); (intro wq HQ; first | (with_reducible exact (shape_at v S hv hS _).mono fun _ _ ⟨he, hw⟩ => ⟨he, hw ▸ Below.refl _ _⟩) | (with_reducible exact (cwhen_at p K hK _).mono fun _ _ ⟨he, hw⟩ => ⟨he, hw ▸ Below.refl _ _⟩)); go_big_quiet_op; go_big_quiet_on) | (go_big_quiet_op; go_big_quiet_on) | (go_big_quiet_op; refine ⟨_, fun _ _ => rfl, ?_⟩; go_big_quiet_on))))
  refine wpQuiet_nil ?_
  intro w' HM'
  clear HM; have HM := HM'; clear HM'
  go_wp2_with (first
    | ((with_reducible apply cgY HM); exact cgS) | ((with_reducible apply cpY HM); exact cpS; clear HM; intro w' HM) | ((with_reducible apply crY HM); exact crS) | ((with_reducible apply clY HM); exact clS; clear HM; intro w' HM))
  go_end0
  have hco := Co.ok HM.out HG.out HX.out
  exact ⟨rfl, Lib.hid hco⟩
set_option maxRecDepth 100000 in
set_option maxHeartbeats 400000 in
theorem bring_at {W0 w : World} {c b n : Nat} {s : Cs} {l : Blocks} (v : Nat) (hv : v < 256) (h : Hid (Co W0 w c b s l (n))) :
    Calls Tryz.prog 196 #[.pointer (some ⟨c, 0, none⟩), .int .u8 (v : Int)] w fun e w' => e = .returned (.tuple #[]) ∧ Hid (Co W0 w' c b (s.bring v) l n) := by
  obtain ⟨hf, hg, X, hX, hO⟩ := h.out.out
  have HF := Lib.hid hf
  have HF0 := Lib.hid hf
  have HG := Lib.hid hg
  have HX := Lib.hid hX
  have HM := Lib.hid hO
  clear h hf hg hX hO
  go_enter Tryz.func196, Tryz.ntmps196
  go_wp2_with (first
    | ((with_reducible apply cgY HM); exact cgS) | ((with_reducible apply cpY HM); exact cpS; clear HM; intro w' HM) | ((with_reducible apply crY HM); exact crS) | ((with_reducible apply clY HM); exact clS; clear HM; intro w' HM)
    | (go_at_call 190; have hco := Lib.hid (Co.ok HM.out HG.out HX.out); (with_reducible refine (shapeWith_at _ _ hv hco).mono ?_); clear hco; rintro e w' ⟨rfl, hc⟩; clear HM HF HG HX; obtain ⟨X, HF, HG, HX, HM⟩ := hc.out.hid; clear hc))
  go_end0
  have hco := Co.ok HM.out HG.out HX.out
  exact ⟨rfl, Lib.hid hco⟩
set_option maxRecDepth 100000 in
set_option maxHeartbeats 400000 in
theorem inOne_at {W0 w : World} {c b n : Nat} {s : Cs} {l : Blocks} (i : Nat) (h : Hid (Co W0 w c b s l (n + 1))) :
    Calls Tryz.prog 132 #[.pointer (some ⟨c, 0, none⟩), .int .i64 (i : Int)] w fun e w' => e = .returned (.int .i64 12) ∧ Hid (Co W0 w' c b (s.inOne i) l n) := by
  obtain ⟨hf, hg, X, hX, hO⟩ := h.out.out
  have HF := Lib.hid hf
  have HF0 := Lib.hid hf
  have HG := Lib.hid hg
  have HX := Lib.hid hX
  have HM := Lib.hid hO
  obtain ⟨p, hp⟩ : ∃ x, Hid (s.pair 0 = x) := ⟨_, rfl⟩
  have p1 : p < 65536 := by rw [← hp.out]; exact Cs.pair_lt hf _
  obtain ⟨v, hv⟩ : ∃ x, Hid (s.ipV p 9 = x) := ⟨_, rfl⟩
  have v1 : v < 256 := by rw [← hv.out]; exact Nat.mod_lt _ (by decide)
  have c1 : comeF v (nPar v) s.r.f < 256 := nByte_lt _ _ _ _ _ _ _ _
  have E : s.inOne i = (((s.ip p 9).setF (comeF v (nPar v) s.r.f)).setWZ (up1 p)).setOne i v := by unfold Cs.inOne; rw [hp.out, hv.out]; rfl
  rw [E]
  have e1 : IntKind.u16.wrap ((p : Int) + 1) = ((up1 p : Nat) : Int) := by unfold up1; show ((p : Int) + 1) % 65536 = _; omega
  clear E h hf hg hX hO
  have hmIn : ∀ w : World, (method 309 28 (.pointer (some ⟨b, 0, none⟩)) "In").run Tryz.prog w = .ok (258, .pointer (some ⟨b, 0, none⟩)) w := fun _ => by kernel_rfl
  go_enter Tryz.func132, Tryz.ntmps132
  go_wp2_with (first
    | ((with_reducible apply cgY HM); exact cgS) | ((with_reducible apply cpY HM); exact cpS; clear HM; intro w' HM) | ((with_reducible apply crY HM); exact crS) | ((with_reducible apply clY HM); exact clS; clear HM; intro w' HM)
    | (go_at_call 83; (with_reducible refine (cpair_q .z HM HF.out _).mono ?_); rintro e w' ⟨rfl, hb⟩; rw [hp.out]; replace HM := Lib.hid (HM.out.call hb); clear hb)
    | (go_at_call 258; have hco := Lib.hid (Co.ok HM.out HG.out HX.out); (with_reducible refine (ip_at9 p p1 hco).mono ?_); clear hco; rintro e w' ⟨rfl, hc⟩; clear HM HF HG HX; obtain ⟨X, HF, HG, HX, HM⟩ := hc.out.hid; clear hc; rw [hv.out])
    | (go_at_call 191; (with_reducible refine (parity_at v _ v1 (Lib.hid rfl) _).mono ?_); rintro e w' ⟨rfl, rfl⟩)
    | (go_at_call 190; have hco := Lib.hid (Co.ok HM.out HG.out HX.out); (with_reducible refine (shapeWith_at v _ v1 hco).mono ?_); clear hco; rintro e w' ⟨rfl, hc⟩; clear HM HF HG HX; obtain ⟨X, HF, HG, HX, HM⟩ := hc.out.hid; clear hc)
    | (go_at_call 86; have hco := Lib.hid (Co.ok HM.out HG.out HX.out); (with_reducible refine (csetOne_at _ v v1 hco).mono ?_); clear hco; rintro e w' ⟨rfl, hc⟩; clear HM HF HG HX; obtain ⟨X, HF, HG, HX, HM⟩ := hc.out.hid; clear hc))
  go_ret
  have hco := Co.ok HM.out HG.out HX.out
  exact ⟨rfl, Lib.hid hco⟩
set_option maxRecDepth 100000 in
set_option maxHeartbeats 400000 in
theorem outOne_at {W0 w : World} {c b n : Nat} {s : Cs} {l : Blocks} (i : Nat) (h : Hid (Co W0 w c b s l (n + 1))) :
    Calls Tryz.prog 133 #[.pointer (some ⟨c, 0, none⟩), .int .i64 (i : Int)] w fun e w' => e = .returned (.int .i64 12) ∧ Hid (Co W0 w' c b (s.outOne i) l n) := by
  obtain ⟨hf, hg, X, hX, hO⟩ := h.out.out
  have HF := Lib.hid hf
  have HF0 := Lib.hid hf
  have HG := Lib.hid hg
  have HX := Lib.hid hX
  have HM := Lib.hid hO
  obtain ⟨p, hp⟩ : ∃ x, Hid (s.pair 0 = x) := ⟨_, rfl⟩
  have p1 : p < 65536 := by rw [← hp.out]; exact Cs.pair_lt hf _
  have v1 : s.one i < 256 := Cs.one_lt hf _
  have E : s.outOne i = (s.op p (s.one i) 9).setWZ (up1 p) := by unfold Cs.outOne; rw [hp.out]
  rw [E]
  have e1 : IntKind.u16.wrap ((p : Int) + 1) = ((up1 p : Nat) : Int) := by unfold up1; show ((p : Int) + 1) % 65536 = _; omega
  clear E h hf hg hX hO
  have hmOut : ∀ w : World, (method 309 28 (.pointer (some ⟨b, 0, none⟩)) "Out").run Tryz.prog w = .ok (259, .pointer (some ⟨b, 0, none⟩)) w := fun _ => by kernel_rfl
  go_enter Tryz.func133, Tryz.ntmps133
  go_upto_region 2 with (first
    | ((with_reducible apply cgY HM); exact cgS) | ((with_reducible apply cpY HM); exact cpS; clear HM; intro w' HM) | ((with_reducible apply crY HM); exact crS) | ((with_reducible apply clY HM); exact clS; clear HM; intro w' HM)
    | (go_at_call 83; (with_reducible refine (cpair_q .z HM HF.out _).mono ?_); rintro e w' ⟨rfl, hb⟩; rw [hp.out]; replace HM := Lib.hid (HM.out.call hb); clear hb))
  (refine own_tail 10 HM (by kernel_rfl) (by kernel_rfl) (by kernel_rfl) ?_; simp only [List.take_succ_cons, List.take_zero, List.drop_succ_cons, List.drop_zero]; (try simp only [Act.put, List.setIfInBounds_toArray, List.set_cons_zero, List.set_cons_succ]); repeat ((fail_if_success (with_reducible refine wpQuiet_nil ?_)); first | go_big_quiet_skip | (go_big_quiet_want; first | ((with_reducible apply quiet_get); exact rfl; exact wS; exact sS; exact rfl; go_big_quiet_op; go_big_quiet_on) | ((with_reducible apply quiet_load); exact rfl; (with_reducible exact aggR); exact sS; exact Cs.drop0 _ _; exact Cs.take29 _ _; go_big_quiet_op; go_big_quiet_on) | ((with_reducible apply quiet_call); exact fun w => rfl; (focus (go_simp; all_goals with_reducible rfl)); (intro wq HQ; first | (with_reducible exact cone_q .z HQ HF.out _)); go_big_quiet_op; go_big_quiet_on) | (go_big_quiet_op; go_big_quiet_on) | (go_big_quiet_op; refine ⟨_, fun _ _ => rfl, ?_⟩; go_big_quiet_on))))
  refine wpQuiet_nil ?_
  intro w' HM'
  clear HM; have HM := HM'; clear HM'
  go_wp2_with (first
    | ((with_reducible apply cgY HM); exact cgS) | ((with_reducible apply cpY HM); exact cpS; clear HM; intro w' HM) | ((with_reducible apply crY HM); exact crS) | ((with_reducible apply clY HM); exact clS; clear HM; intro w' HM)
    | (go_at_call 259; have hco := Lib.hid (Co.ok HM.out HG.out HX.out); (with_reducible refine (op_at9 _ _ p1 v1 hco).mono ?_); clear hco; rintro e w' ⟨rfl, hc⟩; clear HM HF HG HX; obtain ⟨X, HF, HG, HX, HM⟩ := hc.out.hid; clear hc))
  go_ret
  have hco := Co.ok HM.out HG.out HX.out
  exact ⟨rfl, Lib.hid hco⟩
end Go.Proofs.YtljjgakfnajifaaGreatDoor
