import Derived.Test.YtljjgakfnajifaaGreatDoorZCpuP
import Derived.Deep.Cut
import Derived.Deep.CutRange
namespace Go.Proofs.YtljjgakfnajifaaGreatDoor
open Go.RowKit
theorem op_at8 {W0 w : World} {c b n : Nat} {s : Cs} {l : Blocks} (p v : Nat) (hp : p < 65536) (hv : v < 256) (h : Hid (Co W0 w c b s l (n + 1))) :
    Calls Tryz.prog 259 #[.pointer (some ⟨b, 0, none⟩), .int .u16 (p : Int), .int .u8 (v : Int), .int .i64 8] w fun e w' => e = .returned (.tuple #[]) ∧ Hid (Co W0 w' c b (s.op p v 8) l n) := op_at p v 8 hp hv (by decide) h
theorem ip_at8 {W0 w : World} {c b n : Nat} {s : Cs} {l : Blocks} (p : Nat) (hp : p < 65536) (h : Hid (Co W0 w c b s l (n + 1))) :
    Calls Tryz.prog 258 #[.pointer (some ⟨b, 0, none⟩), .int .u16 (p : Int), .int .i64 8] w fun e w' => e = .returned (.int .u8 (s.ipV p 8 : Int)) ∧ Hid (Co W0 w' c b (s.ip p 8) l n) := ip_at p 8 hp (by decide) h
theorem op_at9 {W0 w : World} {c b n : Nat} {s : Cs} {l : Blocks} (p v : Nat) (hp : p < 65536) (hv : v < 256) (h : Hid (Co W0 w c b s l (n + 1))) :
    Calls Tryz.prog 259 #[.pointer (some ⟨b, 0, none⟩), .int .u16 (p : Int), .int .u8 (v : Int), .int .i64 9] w fun e w' => e = .returned (.tuple #[]) ∧ Hid (Co W0 w' c b (s.op p v 9) l n) := op_at p v 9 hp hv (by decide) h
theorem ip_at9 {W0 w : World} {c b n : Nat} {s : Cs} {l : Blocks} (p : Nat) (hp : p < 65536) (h : Hid (Co W0 w c b s l (n + 1))) :
    Calls Tryz.prog 258 #[.pointer (some ⟨b, 0, none⟩), .int .u16 (p : Int), .int .i64 9] w fun e w' => e = .returned (.int .u8 (s.ipV p 9 : Int)) ∧ Hid (Co W0 w' c b (s.ip p 9) l n) := ip_at p 9 hp (by decide) h
theorem op_at13 {W0 w : World} {c b n : Nat} {s : Cs} {l : Blocks} (p v : Nat) (hp : p < 65536) (hv : v < 256) (h : Hid (Co W0 w c b s l (n + 1))) :
    Calls Tryz.prog 259 #[.pointer (some ⟨b, 0, none⟩), .int .u16 (p : Int), .int .u8 (v : Int), .int .i64 13] w fun e w' => e = .returned (.tuple #[]) ∧ Hid (Co W0 w' c b (s.op p v 13) l n) := op_at p v 13 hp hv (by decide) h
theorem ip_at13 {W0 w : World} {c b n : Nat} {s : Cs} {l : Blocks} (p : Nat) (hp : p < 65536) (h : Hid (Co W0 w c b s l (n + 1))) :
    Calls Tryz.prog 258 #[.pointer (some ⟨b, 0, none⟩), .int .u16 (p : Int), .int .i64 13] w fun e w' => e = .returned (.int .u8 (s.ipV p 13 : Int)) ∧ Hid (Co W0 w' c b (s.ip p 13) l n) := ip_at p 13 hp (by decide) h
set_option maxRecDepth 100000 in
set_option maxHeartbeats 400000 in
theorem outNext_at {W0 w : World} {c b n : Nat} {s : Cs} {l : Blocks} (h : Hid (Co W0 w c b s l (n + 2))) :
    Calls Tryz.prog 221 #[.pointer (some ⟨c, 0, none⟩)] w fun e w' => e = .returned (.int .i64 11) ∧ Hid (Co W0 w' c b (s.outNext) l n) := by
  obtain ⟨hf, hg, X, hX, hO⟩ := h.out.out
  have HF := Lib.hid hf
  have HF0 := Lib.hid hf
  have HG := Lib.hid hg
  have HX := Lib.hid hX
  have HM := Lib.hid hO
  have v1 : s.nextV < 256 := hf.m _
  obtain ⟨V, hV⟩ : ∃ x, Hid (s.nextV = x) := ⟨_, rfl⟩
  obtain ⟨lo, hlo⟩ : ∃ x, Hid ((V + 1) % 256 = x) := ⟨_, rfl⟩
  have a1 : s.next.r.a < 256 := hf.r.a
  obtain ⟨p, hp⟩ : ∃ x, Hid (s.next.r.a * 256 + V = x) := ⟨_, rfl⟩
  obtain ⟨J, hJ⟩ : ∃ x, Hid (s.next.r.a * 256 + lo = x) := ⟨_, rfl⟩
  have E : s.outNext = (s.next.op p s.next.r.a 8).setWZ J := by unfold Cs.outNext; rw [hV.out, hlo.out, ← hp.out, ← hJ.out]; rfl
  rw [E]
  rw [hV.out] at v1
  have p1 : p < 65536 := by rw [← hp.out]; omega
  have lo1 : lo < 256 := by rw [← hlo.out]; exact Nat.mod_lt _ (by decide)
  have e1 : IntKind.u8.wrap ((V : Int) + 1) = (lo : Int) := by rw [← hlo.out]; show ((V : Int) + 1) % 256 = _; omega
  have J1 : J < 65536 := by rw [← hJ.out]; omega
  clear E h hf hg hX hO
  have hmOut : ∀ w : World, (method 309 28 (.pointer (some ⟨b, 0, none⟩)) "Out").run Tryz.prog w = .ok (259, .pointer (some ⟨b, 0, none⟩)) w := fun _ => by kernel_rfl
  go_enter Tryz.func221, Tryz.ntmps221
  go_upto_region 2 with (first
    | ((with_reducible apply cgY HM); exact cgS) | ((with_reducible apply cpY HM); exact cpS; clear HM; intro w' HM) | ((with_reducible apply crY HM); exact crS) | ((with_reducible apply clY HM); exact clS; clear HM; intro w' HM)
    | (go_at_call 78; have hco := Lib.hid (Co.ok HM.out HG.out HX.out); (with_reducible refine (next_at hco).mono ?_); clear hco; rintro e w' ⟨rfl, hc⟩; clear HM HF HG HX; obtain ⟨X, HF, HG, HX, HM⟩ := hc.out.hid; clear hc; rw [hV.out]))
  (refine own_tail 18 HM (by kernel_rfl) (by kernel_rfl) (by kernel_rfl) ?_; simp only [List.take_succ_cons, List.take_zero, List.drop_succ_cons, List.drop_zero]; (try simp only [Act.put, List.setIfInBounds_toArray, List.set_cons_zero, List.set_cons_succ]); repeat ((fail_if_success (with_reducible refine wpQuiet_nil ?_)); first | go_big_quiet_skip | (go_big_quiet_want; first | ((with_reducible apply quiet_get); exact rfl; exact wS; exact sS; exact rfl; go_big_quiet_op; go_big_quiet_on) | ((with_reducible apply quiet_load); exact rfl; (with_reducible exact aggR); exact sS; exact Cs.drop0 _ _; exact Cs.take29 _ _; go_big_quiet_op; go_big_quiet_on) | ((with_reducible apply quiet_call); exact fun w => rfl; (focus (go_simp; all_goals with_reducible rfl)); (intro wq HQ; first | (with_reducible exact (join_at _ V p HF.out.r.a v1 hp _).mono fun _ _ ⟨he, hw⟩ => ⟨he, hw ▸ Below.refl _ _⟩)); go_big_quiet_op; go_big_quiet_on) | (go_big_quiet_op; go_big_quiet_on) | (go_big_quiet_op; refine ⟨_, fun _ _ => rfl, ?_⟩; go_big_quiet_on))))
  refine wpQuiet_nil ?_
  intro w' HM'
  clear HM; have HM := HM'; clear HM'
  go_wp2_with (first
    | ((with_reducible apply cgY HM); exact cgS) | ((with_reducible apply cpY HM); exact cpS; clear HM; intro w' HM) | ((with_reducible apply crY HM); exact crS) | ((with_reducible apply clY HM); exact clS; clear HM; intro w' HM)
    | (go_at_call 259; have hco := Lib.hid (Co.ok HM.out HG.out HX.out); (with_reducible refine (op_at8 _ _ p1 HF.out.r.a hco).mono ?_); clear hco; rintro e w' ⟨rfl, hc⟩; clear HM HF HG HX; obtain ⟨X, HF, HG, HX, HM⟩ := hc.out.hid; clear hc)
    | (go_at_call 96; (with_reducible refine (join_at _ lo J HF.out.r.a lo1 hJ _).mono ?_); rintro e w' ⟨rfl, rfl⟩))
  go_ret
  have hco := Co.ok HM.out HG.out HX.out
  exact ⟨rfl, Lib.hid hco⟩
set_option maxRecDepth 100000 in
set_option maxHeartbeats 400000 in
theorem inNext_at {W0 w : World} {c b n : Nat} {s : Cs} {l : Blocks} (h : Hid (Co W0 w c b s l (n + 2))) :
    Calls Tryz.prog 222 #[.pointer (some ⟨c, 0, none⟩)] w fun e w' => e = .returned (.int .i64 11) ∧ Hid (Co W0 w' c b (s.inNext) l n) := by
  obtain ⟨hf, hg, X, hX, hO⟩ := h.out.out
  have HF := Lib.hid hf
  have HF0 := Lib.hid hf
  have HG := Lib.hid hg
  have HX := Lib.hid hX
  have HM := Lib.hid hO
  have v1 : s.nextV < 256 := hf.m _
  obtain ⟨a, ha⟩ : ∃ x, Hid (s.r.a = x) := ⟨_, rfl⟩
  have a1 : a < 256 := by rw [← ha.out]; exact hf.r.a
  obtain ⟨p, hp⟩ : ∃ x, Hid (a * 256 + s.nextV = x) := ⟨_, rfl⟩
  have p1 : p < 65536 := by rw [← hp.out]; omega
  have i1 : s.next.ipV p 8 < 256 := Nat.mod_lt _ (by decide)
  have E : s.inNext = ((s.next.ip p 8).setA (s.next.ipV p 8)).setWZ (up1 p) := by unfold Cs.inNext; rw [← hp.out, ← ha.out]
  rw [E]
  have e1 : IntKind.u16.wrap ((p : Int) + 1) = ((up1 p : Nat) : Int) := by unfold up1; show ((p : Int) + 1) % 65536 = _; omega
  clear E h hf hg hX hO
  have hmIn : ∀ w : World, (method 309 28 (.pointer (some ⟨b, 0, none⟩)) "In").run Tryz.prog w = .ok (258, .pointer (some ⟨b, 0, none⟩)) w := fun _ => by kernel_rfl
  go_enter Tryz.func222, Tryz.ntmps222
  go_upto_region 1 with fail
  have HM' := Lib.hid HM.out.drew
  clear HM; have HM := HM'; clear HM'
  have c0 : w.drew.cell? ⟨c, 0, none⟩ = some (.int .u8 (a : Int)) := (HM.out.cells_at .z 0 _ rfl).trans (congrArg (fun x : Nat => some (Value.int .u8 (x : Int))) ha.out)
  go_region_with (first
    | (go_at_call 78; have hco := Lib.hid (Co.ok HM.out HG.out HX.out); (with_reducible refine (next_at hco).mono ?_); clear hco; rintro e w' ⟨rfl, hc⟩; clear HM HF HG HX; obtain ⟨X, HF, HG, HX, HM⟩ := hc.out.hid; clear hc; have c0 : w'.cell? ⟨c, 0, none⟩ = some (.int .u8 (a : Int)) := (HM.out.cells_at .z 0 _ rfl).trans (congrArg (fun x : Nat => some (Value.int .u8 (x : Int))) ha.out))
    | (go_at_call 96; (with_reducible refine (join_at a s.nextV p a1 v1 hp _).mono ?_); rintro e w' ⟨rfl, rfl⟩))
  all_goals go_wp2_with (first | ((with_reducible apply cgY HM); exact cgS) | ((with_reducible apply cpY HM); exact cpS; clear HM; intro w' HM) | ((with_reducible apply crY HM); exact crS) | ((with_reducible apply clY HM); exact clS; clear HM; intro w' HM) | (go_at_call 258; have hco := Lib.hid (Co.ok HM.out HG.out HX.out); (with_reducible refine (ip_at8 p p1 hco).mono ?_); clear hco; rintro e w' ⟨rfl, hc⟩; clear HM HF HG HX; obtain ⟨X, HF, HG, HX, HM⟩ := hc.out.hid; clear hc))
  all_goals go_ret
  all_goals have hco := Co.ok HM.out HG.out HX.out
  all_goals exact ⟨rfl, Lib.hid (hco.less (by omega))⟩
set_option maxRecDepth 100000 in
set_option maxHeartbeats 400000 in
theorem swapTop_at {W0 w : World} {c b n : Nat} {s : Cs} {l : Blocks} (h : Hid (Co W0 w c b s l (n + 4))) :
    Calls Tryz.prog 223 #[.pointer (some ⟨c, 0, none⟩)] w fun e w' => e = .returned (.int .i64 19) ∧ Hid (Co W0 w' c b (s.swapTop) l n) := by
  obtain ⟨hf, hg, X, hX, hO⟩ := h.out.out
  have HF := Lib.hid hf
  have HF0 := Lib.hid hf
  have HG := Lib.hid hg
  have HX := Lib.hid hX
  have HM := Lib.hid hO
  have s1 : s.r.sp < 65536 := hf.r.sp
  have p1 : s.pair 2 < 65536 := Cs.pair_lt hf _
  have n1 : s.numV s.r.sp < 65536 := Cs.numV_lt hf _
  clear h hf hg hX hO
  go_enter Tryz.func223, Tryz.ntmps223
  go_wp2_with (first
    | ((with_reducible apply cgY HM); exact cgS) | ((with_reducible apply cpY HM); exact cpS; clear HM; intro w' HM) | ((with_reducible apply crY HM); exact crS) | ((with_reducible apply clY HM); exact clS; clear HM; intro w' HM)
    | (go_at_call 83; (with_reducible refine (cpair_q .z HM HF.out _).mono ?_); rintro e w' ⟨rfl, hb⟩; replace HM := Lib.hid (HM.out.call hb); clear hb)
    | (go_at_call 95; have hco := Lib.hid (Co.ok HM.out HG.out HX.out); (with_reducible refine (number_at _ s1 hco).mono ?_); clear hco; rintro e w' ⟨rfl, hc⟩; clear HM HF HG HX; obtain ⟨X, HF, HG, HX, HM⟩ := hc.out.hid; clear hc)
    | (go_at_call 194; have hco := Lib.hid (Co.ok HM.out HG.out HX.out); (with_reducible refine (setNumber_at _ _ (Cs.setWZ_fits HF.out n1).r.sp p1 hco).mono ?_); clear hco; rintro e w' ⟨rfl, hc⟩; clear HM HF HG HX; obtain ⟨X, HF, HG, HX, HM⟩ := hc.out.hid; clear hc)
    | (go_at_call 152; have hco := Lib.hid (Co.ok HM.out HG.out HX.out); (with_reducible refine (csetPair_at _ _ HF.out.r.wz hco).mono ?_); clear hco; rintro e w' ⟨rfl, hc⟩; clear HM HF HG HX; obtain ⟨X, HF, HG, HX, HM⟩ := hc.out.hid; clear hc))
  go_ret
  have hco := Co.ok HM.out HG.out HX.out
  exact ⟨rfl, Lib.hid hco⟩
end Go.Proofs.YtljjgakfnajifaaGreatDoor
