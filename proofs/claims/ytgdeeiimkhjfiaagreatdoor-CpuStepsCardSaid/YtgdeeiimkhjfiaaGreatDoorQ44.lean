import Derived.Test.YtgdeeiimkhjfiaaGreatDoorQ43
import Derived.Handed
import Derived.HandedShaped
import Derived.LaidMore
import Derived.Lib.LaidTab
import Derived.MakeChecks
import Derived.ProofKit
import Derived.OpenShut
import Derived.ChangeOld
import Derived.ChangeArms
import Derived.Lib.SmallJoins
import Derived.Stop.Joined
import Derived.Below
set_option maxRecDepth 100000
set_option maxHeartbeats 6400000
namespace Go.Proofs.YtgdeeiimkhjfiaaGreatDoor
open Go.RowKit
section
variable {W0 w : World} {x b tq n c : Nat} {s : Cs} {ix : Bool} {pg : Int} {l : Blocks}
theorem y_get {P : Program} {W0 : World} {ops : Array Oper} {o : Oper} {a : Act} {v : Value} {ty t : TypeId} {x : Operand} {g off : Nat} {cs : List Value} (ho : o.op = .load ty x) (hx : a.eval x = .pointer (some ⟨g, off, none⟩)) (hty : One P ty)
  (hs : Sel l g t cs) (hd : cs[off]? = some v) (hw : Region.wanted o (yielded ops a.tmps) = true) : YieldsIf P ops (fun w' => Own W0 w' l) o v a := by
 refine .inl ⟨hw, fun w hC => ?_⟩
 have hc : w.cell? ⟨g, off, none⟩ = some v := by rw [(hC.at_ hs).at_]; exact hd
 unfold execOp
 simp only [ho, hx, Instr.loadAt, Instr.sureAddr, Sem.run_bind, Sem.run_pure, Result.andThen_ok, run_loadVar_one w g off ty v hc hty]
theorem Own.left {l X : Blocks} (h : Own W0 w (l ++ X)) : Own W0 w l := ⟨h.below, fun e he => h.whole e (List.mem_append_left _ he), (List.pairwise_append.1 h.apart).1⟩
theorem own_swap {l X Y : Blocks} (h : Own W0 w (l ++ (X ++ Y))) : Own W0 w ((l ++ Y) ++ X) := h.perm (by rw [List.append_assoc]; exact List.perm_append_comm.append_left l)
theorem reads_any {W0 : World} {a : Option Addr} {cc : Nat} {bs : List Nat} (hb : ∀ i, bs.getD i 0 < 256) (hR : Rd W0 (.slice a bs.length cc) (by8 bs)) : Reads W0 l a bs := by
 refine ⟨fun y hy => ?_, fun hp => ?_⟩
 ·obtain ⟨j, hj, rfl⟩ := List.mem_iff_getElem.1 hy
  have := hb j
  rwa [List.getD_eq_getElem?_getD, List.getElem?_eq_getElem hj, Option.getD_some] at this
 ·rcases hR with ⟨h, h'⟩ | ⟨ad, cap, h, h'⟩ | ⟨g, o, cap, h, hg, hc⟩
  ·exfalso; have e := congrArg List.length h'; rw [by8_length] at e; simp only [List.length_nil] at e; omega
  ·exfalso; have e := congrArg List.length h'; rw [by8_length] at e; simp only [List.length_nil] at e; omega
  ·obtain rfl : a = some ⟨g, o, none⟩ := by injection h
   refine ⟨g, o, rfl, fun w hO i y hy => ?_⟩
   refine (hO.below.cell (p := ⟨g, o + i, none⟩) hg).trans (hc i _ ?_)
   rw [by8, List.getElem?_map, hy]; rfl
theorem q3_right {r : Rg} (h : r.right = true) : Q3 r.px := by
 unfold Rg.right at h
 simp only [Bool.and_eq_true, Bool.or_eq_true, decide_eq_true_eq] at h
 have := h
 omega
section
variable {W0 w : World} {b n : Nat} {l : Blocks} {r q : Rg} {u u' : U} {k : Nat}
theorem step_to2 (hT : Hid (Tabs W0)) (hr : Hid r.Fits) (hq : Hid ((Cs.step ⟨r, 0, u⟩).r = q)) (hk : Hid (Cs.stepC ⟨r, 0, u⟩ = k)) (hu : Hid ((Cs.step ⟨r, 0, u⟩).u = u')) (h : Hid (Bx W0 w b u l (n + 7))) :
  CX 9 #[r.v, .iface 29 (.pointer (some ⟨b, 0, none⟩))] w (.tuple #[q.v, .int .i64 (k : Int)]) fun w' => Hid q.Fits ∧ Hid (Bx W0 w' b u' l n) := by
 rw [← hq.out, ← hk.out, ← hu.out]
 exact (step_any (n := n + 1) hT r u hr.out h).mono fun _ _ ⟨he, hf, hb⟩ => ⟨he, Lib.hid hf, Lib.hid ⟨hb.out.good.less (by omega), hb.out.own⟩⟩
theorem rstep_to (h3 : Hid (Q3 r.px)) (hr : Hid r.Fits) (hq : Hid ((Cs.step ⟨r, 0, u⟩).r = q)) (hk : Hid (Cs.stepC ⟨r, 0, u⟩ = k)) (hu : Hid ((Cs.step ⟨r, 0, u⟩).u = u')) (h : Hid (Fx W0 w b u l (n + 7))) :
  CX 10 #[r.v, .pointer (some ⟨b, 0, none⟩)] w (.tuple #[q.v, .int .i64 (k : Int)]) fun w' => Hid (Fx W0 w' b u' l n) := by
 rw [← hq.out, ← hk.out, ← hu.out]
 exact rstep_at (s := ⟨r, 0, u⟩) h3.out hr.out h
end
theorem k23 {P : Prop} (h : P := by
 have HM := Lib.hid (Own.start w)
 go_enter Tryz.func3, Tryz.ntmps3
 go_wp2_with (first | (refine a0 ?_; clear HM; intro w' g' HM) | refine a6 ?_ | (go_at_call 5; (with_reducible refine (cpuAlive_any _ (Tabs.own HT HM)).mono ?_); rintro e w' ⟨rfl, hb⟩; replace HM := Lib.hid (HM.out.call hb); clear hb) | (go_at_call 6; (with_reducible refine (rrightRegs r _ HRB _).mono ?_); rintro e w' ⟨rfl, hb⟩; replace HM := Lib.hid (HM.out.call hb); clear hb))
 go_ret
 exact ⟨rfl, Own.fin HM⟩) : P := h
theorem steps_wrong (r : Rg) (_hr : r.Fits) (bs : List Nat) (a : Option Addr) (cc x : Nat) (hq : r.right = false) (w : World) (hT : Tabs w) : CB 3 #[r.v, .slice a bs.length cc, .int .u8 (x : Int)] w (.bool true) := by
 have HT := Lib.hid hT
 have HRB : Hid (r.right = false) := hq
 clear hT hq
 exact k23
theorem steps_long (r : Rg) (_hr : r.Fits) (bs : List Nat) (a : Option Addr) (cc x : Nat) (hq : r.right = true) (hl : 20 < bs.length) (w : World) (hT : Tabs w) : CB 3 #[r.v, .slice a bs.length cc, .int .u8 (x : Int)] w (.bool true) := by
 have HT := Lib.hid hT
 have HRB : Hid (r.right = true) := hq
 have hl' : (20 : Int) < (bs.length : Int) := by omega
 clear hT hq hl
 exact k23
theorem steps_in (r : Rg) (hr : r.Fits) (bs : List Nat) (a : Option Addr) (cc x : Nat) (hb : ∀ i, bs.getD i 0 < 256) (_hx : x < 256) (hq : r.right = true) (hl : bs.length ≤ 20) (w : World) (hR : Rd w (.slice a bs.length cc) (by8 bs)) (hT : Tabs w) : CB 3 #[r.v, .slice a bs.length cc, .int .u8 (x : Int)] w (.bool true) := by
 have HT := Lib.hid hT
 have HR := Lib.hid hr
 have HRB : Hid (r.right = true) := hq
 have H3 := Lib.hid (q3_right hq)
 have hl' : ¬ (20 : Int) < (bs.length : Int) := by omega
 have BL := Lib.hid (show bs.length ≤ 65536 by omega)
 have PC := Lib.hid hr.pc
 have HRD : Hid (∀ l, Hid (Reads w l a bs)) := Lib.hid fun l => Lib.hid (reads_any hb hR)
 clear hT hq hl hR hb hr
 have HM := Lib.hid (Own.start w)
 have tg1 : Hid True := trivial
 have tg2 : Hid True := trivial
 have tg3 : Hid True := trivial
 obtain ⟨q, HQ⟩ : ∃ q, Hid ((Cs.step ⟨r, 0, (⟨lay (bas x) r.pc bs, []⟩ : U)⟩).r = q) := ⟨_, rfl⟩
 obtain ⟨k, HK⟩ : ∃ k, Hid (Cs.stepC ⟨r, 0, (⟨lay (bas x) r.pc bs, []⟩ : U)⟩ = k) := ⟨_, rfl⟩
 obtain ⟨u, HU⟩ : ∃ u, Hid ((Cs.step ⟨r, 0, (⟨lay (bas x) r.pc bs, []⟩ : U)⟩).u = u) := ⟨_, rfl⟩
 have hsame := Rg.same q
 go_enter Tryz.func3, Tryz.ntmps3
 go_upto_region 5 with (first | (refine a0 ?_; (first | (clear tg1 HM; intro w' g1 HM) | (clear tg2 HM; intro w' g2 HM) | (clear tg3 HM; intro w' g3 HM) | (clear HM; intro w' g' HM))) | refine a6 ?_ | (go_at_call 5; (with_reducible refine (cpuAlive_any _ (Tabs.own HT HM)).mono ?_); rintro e w' ⟨rfl, hb⟩; replace HM := Lib.hid (HM.out.call hb); clear hb) | (go_at_call 6; (with_reducible refine (rrightRegs r _ HRB _).mono ?_); rintro e w' ⟨rfl, hb⟩; replace HM := Lib.hid (HM.out.call hb); clear hb))
 refine wp_region_held (S := fun w' => Own w w' [(g1, 25, r.cells)]) (by kernel_rfl) ?_
 replace HM := Lib.hid HM.out.drew
 change wpAnyH _ _ _ _ _ _ _ _ (World.drew _)
 have HQ := HM.out
 refine h_take (i := 0) (d := 23) (v := .pointer (some ⟨g1, 19, none⟩)) rfl rfl (by kernel_rfl) (by kernel_rfl) (by kernel_rfl) (fun _ _ _ h => h) (y_pure rfl (fun w => by go_simp)) HQ ?_
 (try simp only [Act.put, List.setIfInBounds_toArray, List.set_cons_zero, List.set_cons_succ])
 refine h_take (i := 1) (d := 24) (v := .int .u16 (r.pc : Int)) rfl rfl (by kernel_rfl) (by kernel_rfl) (by kernel_rfl) (fun _ _ _ h => h) (y_get (g := g1) (off := 19) rfl rfl oneU16 .z rfl rfl) HQ ?_
 (try simp only [Act.put, List.setIfInBounds_toArray, List.set_cons_zero, List.set_cons_succ])
 refine h_take (i := 2) (d := 25) (v := .slice a bs.length cc) rfl rfl (by kernel_rfl) (by kernel_rfl) (by kernel_rfl) (fun _ _ _ h => h) (y_pure rfl (fun w => by go_simp)) HQ ?_
 (try simp only [Act.put, List.setIfInBounds_toArray, List.set_cons_zero, List.set_cons_succ])
 refine h_take (i := 3) (d := 26) (v := .int .u8 (x : Int)) rfl rfl (by kernel_rfl) (by kernel_rfl) (by kernel_rfl) (fun _ _ _ h => h) (y_pure rfl (fun w => by go_simp)) HQ ?_
 (try simp only [Act.put, List.setIfInBounds_toArray, List.set_cons_zero, List.set_cons_succ])
 refine h_take (i := 5) (d := 28) (v := .pointer (some ⟨g1, 19, none⟩)) rfl rfl (by kernel_rfl) (by kernel_rfl) (by kernel_rfl) (fun _ _ _ h => h) (y_pure rfl (fun w => by go_simp)) HQ ?_
 (try simp only [Act.put, List.setIfInBounds_toArray, List.set_cons_zero, List.set_cons_succ])
 refine h_take (i := 6) (d := 29) (v := .int .u16 (r.pc : Int)) rfl rfl (by kernel_rfl) (by kernel_rfl) (by kernel_rfl) (fun _ _ _ h => h) (y_get (g := g1) (off := 19) rfl rfl oneU16 .z rfl rfl) HQ ?_
 (try simp only [Act.put, List.setIfInBounds_toArray, List.set_cons_zero, List.set_cons_succ])
 refine h_take (i := 7) (d := 30) (v := .slice a bs.length cc) rfl rfl (by kernel_rfl) (by kernel_rfl) (by kernel_rfl) (fun _ _ _ h => h) (y_pure rfl (fun w => by go_simp)) HQ ?_
 (try simp only [Act.put, List.setIfInBounds_toArray, List.set_cons_zero, List.set_cons_succ])
 refine h_take (i := 8) (d := 31) (v := .int .u8 (x : Int)) rfl rfl (by kernel_rfl) (by kernel_rfl) (by kernel_rfl) (fun _ _ _ h => h) (y_pure rfl (fun w => by go_simp)) HQ ?_
 (try simp only [Act.put, List.setIfInBounds_toArray, List.set_cons_zero, List.set_cons_succ])
 clear HQ
 refine wpAnyH_all (rs := [4]) (by kernel_rfl) (by simp) ?_
 intro i hi
 obtain rfl := List.mem_singleton.1 hi
 refine wpOp_of rfl rfl ?_
 refine w_call (f := 7) (args := #[.int .u16 (r.pc : Int), .slice a bs.length cc, .int .u8 (x : Int)]) (fun w => rfl) (by go_simp) ?_
 refine (box_at r.pc x cc bs a PC.out BL.out (HRD.out _) HM).mono ?_
 rintro e w0 ⟨b, rfl, hB⟩
 obtain ⟨hg, X, hX, hO⟩ := hB.out
 have HG := Lib.hid hg
 have HX := Lib.hid hX
 have HM1 := Lib.hid hO
 clear hg hX hO hB HM
 refine ⟨_, rfl, HM1.out.left, ?_⟩
 change wpAnyH _ _ _ _ _ _ _ (Act.put _ (some 27) _) _
 (try simp only [Act.put, List.setIfInBounds_toArray, List.set_cons_zero, List.set_cons_succ])
 refine wpAnyH_all (rs := [9]) (by kernel_rfl) (by simp) ?_
 intro i hi
 obtain rfl := List.mem_singleton.1 hi
 refine wpOp_of rfl rfl ?_
 refine w_call (f := 8) (args := #[.int .u16 (r.pc : Int), .slice a bs.length cc, .int .u8 (x : Int)]) (fun w => rfl) (by go_simp) ?_
 refine (flat_at r.pc x cc bs a PC.out BL.out (HRD.out _) HM1).mono ?_
 rintro e w1 ⟨f, rfl, hF⟩
 obtain ⟨hg, Y, hY, hO⟩ := hF.out
 have HY := Lib.hid hY
 rw [List.append_assoc] at hO
 have HM := Lib.hid hO
 clear hg hY hO hF HM1
 refine ⟨_, rfl, HM.out.left, ?_⟩
 change wpAnyH _ _ _ _ _ _ _ (Act.put _ (some 32) _) _
 (try simp only [Act.put, List.setIfInBounds_toArray, List.set_cons_zero, List.set_cons_succ])
 have HQ := HM.out.left
 refine h_take (i := 10) (d := 7) (v := .pointer (some ⟨b, 0, none⟩)) rfl rfl (by kernel_rfl) (by kernel_rfl) (by kernel_rfl) (fun _ _ _ h => h) (y_pure rfl (fun w => by go_simp)) HQ ?_
 (try simp only [Act.put, List.setIfInBounds_toArray, List.set_cons_zero, List.set_cons_succ])
 refine h_take (i := 11) (d := 8) (v := .pointer (some ⟨f, 0, none⟩)) rfl rfl (by kernel_rfl) (by kernel_rfl) (by kernel_rfl) (fun _ _ _ h => h) (y_pure rfl (fun w => by go_simp)) HQ ?_
 (try simp only [Act.put, List.setIfInBounds_toArray, List.set_cons_zero, List.set_cons_succ])
 clear HQ
 refine wpAnyH_done (by kernel_rfl) ?_ _
 simp only [List.cons_append, List.nil_append] at HM
 go_upto_region 7 with (first | refine a6 ?_ | (go_at_call 9; have hbx : Hid (Bx _ _ b (⟨lay (bas x) r.pc bs, []⟩ : U) ([_] ++ Y) (999993 + 7)) := Lib.hid ⟨HG.out, X, HX.out, own_swap (l := [_]) HM.out⟩; (with_reducible refine (step_to2 HT HR HQ HK HU hbx).mono ?_); clear hbx; rintro e w' ⟨rfl, -, hB⟩; obtain ⟨hg, X', hX, hO⟩ := hB.out; have HG' := Lib.hid hg; have HX' := Lib.hid hX; rw [List.append_assoc] at hO; have HM' := Lib.hid hO; simp only [List.cons_append, List.nil_append] at HM'; clear hg hX hO hB HM HX; have HM := HM'; have HX := HX'; clear HM' HX') | (refine a12 ?_; (first | (clear tg2 HM; intro w' g2 HM) | (clear tg3 HM; intro w' g3 HM) | (clear HM; intro w' g' HM))) | (refine a7 ?_; clear HM; intro w' HM))
 go_upto_region 8 with (first | refine a6 ?_ | (go_at_call 10; have hfx : Hid (Fx _ _ f (⟨lay (bas x) r.pc bs, []⟩ : U) ([_, _] ++ X') (999993 + 7)) := Lib.hid ⟨HG.out, Y, HY.out, own_swap (l := [_, _]) HM.out⟩; (with_reducible refine (rstep_to H3 HR HQ HK HU hfx).mono ?_); clear hfx; rintro e w' ⟨rfl, hB⟩; obtain ⟨hg, Y', hY, hO⟩ := hB.out; have HY' := Lib.hid hY; rw [List.append_assoc] at hO; have HM' := Lib.hid hO; simp only [List.cons_append, List.nil_append] at HM'; clear hg hY hO hB HM HY; have HM := HM'; have HY := HY'; clear HM' HY') | (refine a12 ?_; (first | (clear tg2 HM; intro w' g2 HM) | (clear tg3 HM; intro w' g3 HM) | (clear HM; intro w' g' HM))) | (refine a7 ?_; clear HM; intro w' HM))
 obtain ⟨gm, lv, R1, hX, hR1⟩ := HX.out
 obtain ⟨gm2, lv2, R2, av, Ra, na, xs, hY, hR2, -⟩ := HY.out
 obtain ⟨a1, c1, rfl, hL1⟩ := log_in hR1
 obtain ⟨a2, c2, rfl, hL2⟩ := log_in hR2
 subst hX hY
 have hu := HG'.out.2
 obtain ⟨m, g⟩ := u
 obtain ⟨n, hn⟩ : ∃ n, Hid (g.length = n) := ⟨_, rfl⟩
 obtain ⟨N, hN⟩ : ∃ N : Nat, Hid (N = 65536) := ⟨_, rfl⟩
 have hg1 : g.length ≤ 1000000 := Nat.le_of_add_right_le hu
 have HG1 := Lib.hid hg1
 obtain ⟨Z, hZ⟩ : ∃ Z : Blocks, Z = (gm, 5, mcells m) :: (R1 ++ (gm2, 5, mcells m) :: (R2 ++ Ra)) := ⟨_, rfl⟩
 have hO := HM.out.perm (l' := (g3, 25, q.cells) :: (g2, 25, q.cells) :: (b, 39, [.slice (some ⟨gm, 0, none⟩) 65536 65536, .slice a1 g.length c1]) :: (f, 43, [.slice (some ⟨gm2, 0, none⟩) 65536 65536, .pointer none, .slice a2 g.length c2, .bool false, .int .u8 0, av]) :: Z ++ [(g1, 25, r.cells)]) (by
  subst hZ
  refine .cons _ (.cons _ ?_)
  refine List.Perm.trans (List.perm_append_comm (l₁ := [_])) ?_
  refine .append_right _ ?_
  refine .cons _ ?_
  refine List.Perm.trans (l₂ := (gm, 5, mcells m) :: (f, 43, [.slice (some ⟨gm2, 0, none⟩) 65536 65536, .pointer none, .slice a2 g.length c2, .bool false, .int .u8 0, av]) :: (R1 ++ (gm2, 5, mcells m) :: (R2 ++ Ra))) (.cons _ List.perm_middle) (.swap _ _ _))
 have HL1 : Hid (∀ W, Own w W ((g3, 25, q.cells) :: (g2, 25, q.cells) :: (b, 39, [.slice (some ⟨gm, 0, none⟩) N N, .slice a1 n c1]) :: (f, 43, [.slice (some ⟨gm2, 0, none⟩) N N, .pointer none, .slice a2 n c2, .bool false, .int .u8 0, av]) :: (Z ++ [(g1, 25, r.cells)])) → LogIn W a1 g) := Lib.hid fun W h => hL1 W fun e he => (h.whole e (by rw [hZ]; simp [he])).2
 have HL2 : Hid (∀ W, Own w W ((g3, 25, q.cells) :: (g2, 25, q.cells) :: (b, 39, [.slice (some ⟨gm, 0, none⟩) N N, .slice a1 n c1]) :: (f, 43, [.slice (some ⟨gm2, 0, none⟩) N N, .pointer none, .slice a2 n c2, .bool false, .int .u8 0, av]) :: (Z ++ [(g1, 25, r.cells)])) → LogIn W a2 g) := Lib.hid fun W h => hL2 W fun e he => (h.whole e (by rw [hZ]; simp [he])).2
 rw [hn.out, ← hN.out] at hO
 simp only [List.cons_append] at hO
 clear HM HX HY hR1 hR2 hL1 hL2 hu hZ hg1 HG HG' HQ HK HU
 have HM := Lib.hid hO
 clear hO
 (refine own_region HM (by kernel_rfl) (by kernel_rfl) ?_; (try simp only [Act.put, List.setIfInBounds_toArray, List.set_cons_zero, List.set_cons_succ]); repeat ((fail_if_success (with_reducible refine wpQuiet_nil ?_)); first | go_big_quiet_skip | (go_big_quiet_want; first | ((with_reducible apply quiet_row); exact rfl; exact aggR; exact sS; exact Rg.cells_length _; go_big_quiet_op; go_big_quiet_on) | ((with_reducible apply quiet_cell); exact rfl; (first | (with_reducible exact oneInts) | (with_reducible exact oneU8s)); exact sS; exact dS; go_big_quiet_op; go_big_quiet_on) | ((with_reducible apply quiet_call); exact fun w => rfl; (focus (go_simp; all_goals with_reducible rfl)); (intro wq HQ; first | exact sameLog_at g HG1.out n hn a1 a2 c1 c2 _ (Lib.hid (HL1.out _ HQ)) (Lib.hid (HL2.out _ HQ))); go_big_quiet_op; go_big_quiet_on) | (go_big_quiet_op; go_big_quiet_on) | (go_big_quiet_op; refine ⟨_, fun _ _ => rfl, ?_⟩; go_big_quiet_on))))
 exact k11
theorem steps_any (r : Rg) (hr : r.Fits) (bs : List Nat) (a : Option Addr) (cc x : Nat) (hb : ∀ i, bs.getD i 0 < 256) (hx : x < 256) (w : World) (hR : Rd w (.slice a bs.length cc) (by8 bs)) (hT : Tabs w) : CB 3 #[r.v, .slice a bs.length cc, .int .u8 (x : Int)] w (.bool true) := by
 cases hq : r.right with
 | false => exact steps_wrong r hr bs a cc x hq w hT
 | true =>
  by_cases hl : 20 < bs.length
  ·exact steps_long r hr bs a cc x hq hl w hT
  ·exact steps_in r hr bs a cc x hb hx hq (by omega) w hR hT
open Go.ChangeShapes Go.WideShapes Go.ChangeAt Go.RowKit Go.Joins
theorem bytes_in {H : Type} {enc : TypeId × Value → H} {W : World} {b0 : Nat} {v : Value} {d : DataW H} {q : List MemPlace} (hv : Value.okWide Tryz.prog W .any b0 26 v) (h : DataW.Trod enc Tryz.prog W 0 (fun _ => true) true 26 v d q) :
  ∃ (bs : List Nat) (a : Option Addr) (c : Nat), v = .slice a bs.length c ∧ bs.length ≤ c ∧ (∀ i, bs.getD i 0 < 256) ∧ Rd W v (by8 bs) := by
 obtain ⟨a, n, cap, rfl⟩ := okWide_slice Tryz.underlying26 hv
 obtain ⟨fuel, hf⟩ := h
 rcases open_ints Tryz.underlying26 Tryz.underlying5 (by kernel_rfl) hf with ⟨hcs, _⟩ | ⟨ad, l, cp, zs, hcs, _, hl, hm, hz, _, hcell, hwf⟩
 ·simp [Value.cells] at hcs
  obtain ⟨rfl, rfl, rfl⟩ := hcs
  exact ⟨[], none, 0, rfl, Nat.le_refl _, fun i => by simp, .inl ⟨rfl, rfl⟩⟩
 ·simp [Value.cells] at hcs
  obtain ⟨rfl, rfl, rfl⟩ := hcs
  simp at hz
  have hbb : ∀ z ∈ zs, 0 ≤ z ∧ z ≤ 255 := fun z hz => bounds_u8 (hwf z hz)
  refine ⟨(zs.take n).map Int.toNat, some ad, cap, by simp [hz, Nat.min_eq_left hl], by simp [hz, Nat.min_eq_left hl]; exact hl, ?_, ?_⟩
  ·intro i
   rw [List.getD_eq_getElem?_getD, List.getElem?_map]
   cases hq : (zs.take n)[i]? with
   | none => simp
   | some z =>
    have hzm : z ∈ zs := List.mem_of_mem_take (List.mem_of_getElem? hq)
    have := hbb z hzm
    show z.toNat < 256
    omega
  ·by_cases hn : n = 0
   ·subst hn
    exact .inr (.inl ⟨ad, cap, rfl, by simp [by8]⟩)
   ·have h0 := hcell 0 (by omega)
    obtain ⟨g, o, s⟩ := ad
    have hs : s = none := by simpa [Addr.add] using World.cell?_spot h0
    subst hs
    have hg : g < W.heap.size := by
     have := World.block_lt_of_cell? W _ h0
     simpa [Addr.add] using this
    refine .inr (.inr ⟨g, o, cap, by simp [by8, hz, Nat.min_eq_left hl], hg, fun j u hu => ?_⟩)
    have ha : (⟨g, o, none⟩ : Addr).add j = ⟨g, o + j, none⟩ := by unfold Addr.add; split <;> simp_all
    simp only [by8, List.getElem?_map, Option.map_eq_some_iff] at hu
    obtain ⟨b, ⟨z, hz1, rfl⟩, rfl⟩ := hu
    have hj : j < zs.length := by
     have := (List.getElem?_eq_some_iff.1 hz1).1
     rw [List.length_take] at this
     omega
    have hi' := hcell j hj
    rw [ha] at hi'
    rw [hi']
    have hz2 : zs[j]? = some z := by
     rw [List.getElem?_take] at hz1
     split at hz1
     ·exact hz1
     ·cases hz1
    have hb := hbb z (List.mem_of_getElem? hz2)
    rw [List.getD_eq_getElem?_getD, hz2, Option.getD_some]
    show some (Value.int .u8 z) = some (.int .u8 ((z.toNat : Nat) : Int))
    rw [Int.toNat_of_nonneg hb.1]
open Go.ChangeShapes Go.WideShapes Go.ChangeAt Go.RowKit
section
variable {H : Type} {enc : TypeId × Value → H} {W : World} {fuel : Nat} {y : DataW H × List MemPlace}
theorem kU8 : Tryz.prog.cellsOf 5 = 1 := by kernel_rfl
theorem kU16 : Tryz.prog.cellsOf 23 = 1 := by kernel_rfl
theorem kBool : Tryz.prog.cellsOf 4 = 1 := by kernel_rfl
theorem kAlt : Tryz.prog.cellsOf 22 = 8 := by kernel_rfl
theorem kRegs : Tryz.prog.cellsOf 25 = 29 := by kernel_rfl
theorem bool_open {c : Value} (h : DataW.trod enc Tryz.prog W 0 (fun _ => true) true fuel 4 [c] = some y) : ∃ n, c = .bool n := by
 obtain ⟨a, e, -⟩ := DataW.trod_bool Tryz.underlying4 h
 simp at e; exact ⟨a, e⟩
theorem u8_open {c : Value} (h : DataW.trod enc Tryz.prog W 0 (fun _ => true) true fuel 5 [c] = some y) : ∃ n : Nat, c = .int .u8 (n : Int) ∧ n < 256 := by
 obtain ⟨a, e, -, w⟩ := DataW.trod_int Tryz.underlying5 h
 simp at e
 have := bounds_u8 w
 obtain ⟨n, rfl⟩ := Int.eq_ofNat_of_zero_le this.1
 exact ⟨n, e, by omega⟩
theorem u16_open {c : Value} (h : DataW.trod enc Tryz.prog W 0 (fun _ => true) true fuel 23 [c] = some y) : ∃ n : Nat, c = .int .u16 (n : Int) ∧ n < 65536 := by
 obtain ⟨a, e, -, w⟩ := DataW.trod_int Tryz.underlying23 h
 simp at e
 have := bounds_u16 w
 obtain ⟨n, rfl⟩ := Int.eq_ofNat_of_zero_le this.1
 exact ⟨n, e, by omega⟩
theorem alt_open {a0 a1 a2 a3 a4 a5 a6 a7 : Value} (h : DataW.trod enc Tryz.prog W 0 (fun _ => true) true fuel 22 [a0, a1, a2, a3, a4, a5, a6, a7] = some y) :
  ∃ n0 n1 n2 n3 n4 n5 n6 n7 : Nat, (a0 = .int .u8 (n0 : Int) ∧ a1 = .int .u8 (n1 : Int) ∧ a2 = .int .u8 (n2 : Int) ∧ a3 = .int .u8 (n3 : Int) ∧ a4 = .int .u8 (n4 : Int) ∧ a5 = .int .u8 (n5 : Int) ∧ a6 = .int .u8 (n6 : Int) ∧ a7 = .int .u8 (n7 : Int)) ∧ n0 < 256 ∧ n1 < 256 ∧ n2 < 256 ∧ n3 < 256 ∧ n4 < 256 ∧ n5 < 256 ∧ n6 < 256 ∧ n7 < 256 := by
 obtain ⟨xs, m, rfl, -, hlen, hn, hel⟩ := DataW.trod_array Tryz.underlying22 h
 match xs, hn, hel with
 | [x0, x1, x2, x3, x4, x5, x6, x7], _, hel =>
  have h0 := hel 0 (by decide)
  have h1 := hel 1 (by decide)
  have h2 := hel 2 (by decide)
  have h3 := hel 3 (by decide)
  have h4 := hel 4 (by decide)
  have h5 := hel 5 (by decide)
  have h6 := hel 6 (by decide)
  have h7 := hel 7 (by decide)
  simp [kU8] at h0 h1 h2 h3 h4 h5 h6 h7
  obtain ⟨n0, rfl, b0⟩ := u8_open h0
  obtain ⟨n1, rfl, b1⟩ := u8_open h1
  obtain ⟨n2, rfl, b2⟩ := u8_open h2
  obtain ⟨n3, rfl, b3⟩ := u8_open h3
  obtain ⟨n4, rfl, b4⟩ := u8_open h4
  obtain ⟨n5, rfl, b5⟩ := u8_open h5
  obtain ⟨n6, rfl, b6⟩ := u8_open h6
  obtain ⟨n7, rfl, b7⟩ := u8_open h7
  exact ⟨n0, n1, n2, n3, n4, n5, n6, n7, ⟨rfl, rfl, rfl, rfl, rfl, rfl, rfl, rfl⟩, b0, b1, b2, b3, b4, b5, b6, b7⟩
theorem regs_cells {cs : List Value} (h : DataW.trod enc Tryz.prog W 0 (fun _ => true) true fuel 25 cs = some y) : ∃ r : Rg, cs = r.cells ∧ r.Fits := by
 obtain ⟨xs, n, -, -, hl, hxs, hf⟩ := DataW.trod_struct Tryz.underlying25 h
 rw [kRegs] at hl
 match cs, hl, xs, hxs with
 | [c0, c1, c2, c3, c4, c5, c6, c7, c8, c9, c10, c11, c12, c13, c14, c15, c16, c17, c18, c19, c20, c21, c22, c23, c24, c25, c26, c27, c28], _, [y0, y1, y2, y3, y4, y5, y6, y7, y8, y9, y10, y11, y12, y13, y14, y15, y16, y17, y18, y19, y20, y21], _ =>
  have h0 := hf 0 _ rfl
  simp [kU8] at h0
  have h1 := hf 1 _ rfl
  simp [kU8] at h1
  have h2 := hf 2 _ rfl
  simp [kU8] at h2
  have h3 := hf 3 _ rfl
  simp [kU8] at h3
  have h4 := hf 4 _ rfl
  simp [kU8] at h4
  have h5 := hf 5 _ rfl
  simp [kU8] at h5
  have h6 := hf 6 _ rfl
  simp [kU8] at h6
  have h7 := hf 7 _ rfl
  simp [kU8] at h7
  have h8 := hf 8 _ rfl
  simp [kAlt] at h8
  have h9 := hf 9 _ rfl
  simp [kU16] at h9
  have h10 := hf 10 _ rfl
  simp [kU16] at h10
  have h11 := hf 11 _ rfl
  simp [kU16] at h11
  have h12 := hf 12 _ rfl
  simp [kU16] at h12
  have h13 := hf 13 _ rfl
  simp [kU16] at h13
  have h14 := hf 14 _ rfl
  simp [kU8] at h14
  have h15 := hf 15 _ rfl
  simp [kU8] at h15
  have h16 := hf 16 _ rfl
  simp [kU8] at h16
  have h17 := hf 17 _ rfl
  simp [kU8] at h17
  have h18 := hf 18 _ rfl
  simp [kBool] at h18
  have h19 := hf 19 _ rfl
  simp [kBool] at h19
  have h20 := hf 20 _ rfl
  simp [kBool] at h20
  have h21 := hf 21 _ rfl
  simp [kBool] at h21
  clear hf
  obtain ⟨n0, rfl, b0⟩ := u8_open h0
  obtain ⟨n1, rfl, b1⟩ := u8_open h1
  obtain ⟨n2, rfl, b2⟩ := u8_open h2
  obtain ⟨n3, rfl, b3⟩ := u8_open h3
  obtain ⟨n4, rfl, b4⟩ := u8_open h4
  obtain ⟨n5, rfl, b5⟩ := u8_open h5
  obtain ⟨n6, rfl, b6⟩ := u8_open h6
  obtain ⟨n7, rfl, b7⟩ := u8_open h7
  obtain ⟨n8, n9, n10, n11, n12, n13, n14, n15, ⟨rfl, rfl, rfl, rfl, rfl, rfl, rfl, rfl⟩, b8, b9, b10, b11, b12, b13, b14, b15⟩ := alt_open h8
  obtain ⟨n16, rfl, b16⟩ := u16_open h9
  obtain ⟨n17, rfl, b17⟩ := u16_open h10
  obtain ⟨n18, rfl, b18⟩ := u16_open h11
  obtain ⟨n19, rfl, b19⟩ := u16_open h12
  obtain ⟨n20, rfl, b20⟩ := u16_open h13
  obtain ⟨n21, rfl, b21⟩ := u8_open h14
  obtain ⟨n22, rfl, b22⟩ := u8_open h15
  obtain ⟨n23, rfl, b23⟩ := u8_open h16
  obtain ⟨n24, rfl, b24⟩ := u8_open h17
  obtain ⟨n25, rfl⟩ := bool_open h18
  obtain ⟨n26, rfl⟩ := bool_open h19
  obtain ⟨n27, rfl⟩ := bool_open h20
  obtain ⟨n28, rfl⟩ := bool_open h21
  exact ⟨⟨n0, n1, n2, n3, n4, n5, n6, n7, n8, n9, n10, n11, n12, n13, n14, n15, n16, n17, n18, n19, n20, n21, n22, n23, n24, n25, n26, n27, n28⟩, rfl, ⟨b0, b1, b2, b3, b4, b5, b6, b7, b8, b9, b10, b11, b12, b13, b14, b15, b16, b17, b18, b19, b20, b21, b22, b23, b24⟩⟩
end
theorem regs_in {H : Type} {enc : TypeId × Value → H} {W : World} {b0 : Nat} {v : Value} {d : DataW H} {q : List MemPlace} (hv : Value.okWide Tryz.prog W .any b0 25 v) (h : DataW.Trod enc Tryz.prog W 0 (fun _ => true) true 25 v d q) :
  ∃ r : Rg, v = r.v ∧ r.Fits := by
 obtain ⟨cs, rfl, hsz⟩ := okWide_struct Tryz.underlying25 hv
 obtain ⟨fuel, hf⟩ := h
 obtain ⟨r, e, hF⟩ := regs_cells hf
 refine ⟨r, ?_, hF⟩
 obtain ⟨l⟩ := cs
 simp [Value.cells] at e
 rw [e]
open Go.ChangeShapes Go.WideShapes Go.ChangeAt Go.RowKit Go.Joins
theorem laid_nth {P : Program} {w : World} : ∀ (L : List (String × DataW Unit)) (ps : List MemPlace), DataW.LaidVars P w L ps → ∀ (i : Nat) (n : String) (d : DataW Unit), L[i]? = some (n, d) →
  ∃ g t cs fuel p, P.globalNamed n = some g ∧ (P.globals[g]?).map (·.type) = some t ∧ w.var? P n = some cs ∧ DataW.trod (fun _ => ()) P w 0 (fun _ => true) false fuel t cs.toList = some (d, p)
 | [], _, _, i, n, d, h => by simp at h
 | (m, x) :: r, ps, hl, i, n, d, h => by
  obtain ⟨g, t, cs, fuel, p, q, h1, h2, h3, h4, h5, -⟩ := hl
  cases i with
  | zero =>
   simp only [List.getElem?_cons_zero, Option.some.injEq, Prod.mk.injEq] at h
   obtain ⟨rfl, rfl⟩ := h
   exact ⟨g, t, cs, fuel, p, h1, h2, h3, h4⟩
  | succ i => exact laid_nth r q h5 i n d (by simpa using h)
theorem tab_in {w : World} {ps : List MemPlace} {L : List (String × DataW Unit)} (h : DataW.LaidVars Tryz.prog w L ps) (i g : Nat) (t : TypeId) (l : List Int) (nm : String)
  (hi : L[i]? = some (nm, Lib.tabData .u8 l)) (hg : Tryz.prog.globalNamed nm = some g) (hty : (Tryz.prog.globals[g]?).map (·.type) = some t)
  (ht : Tryz.prog.underlying t = some (.array l.length 5)) (hc1 : Tryz.prog.cellsOf 5 = 1) (hct : Tryz.prog.cellsOf t = l.length) : ∀ k < l.length, w.cell? ⟨g, k, none⟩ = some (.int .u8 (l.getD k 0)) := by
 obtain ⟨g', t', cs, fuel, p, h1, h2, h3, h4⟩ := laid_nth _ _ h i nm _ hi
 obtain rfl := Option.some.inj (hg.symm.trans h1)
 obtain rfl := Option.some.inj (hty.symm.trans h2)
 have hT : Lib.TabIs Tryz.prog w nm .u8 l := by
  unfold Lib.TabIs
  rw [h3, ← Lib.cells_of_tab ht Tryz.underlying5 hc1 hct h4]
 exact fun k hk => hT.cell hg k hk
theorem tabs_of {W : World} (h : laidMetH Tryz.prog Rows.cpuStepsRow.laid W) : Tabs W := by
 rw [MakeChecks.laidMetH_plain _ _ _ (by kernel_rfl)] at h
 obtain ⟨ps, h, -⟩ := h
 exact ⟨fun j hj => tab_in h 0 1 131 askTab "joystick/regs.asked" (by kernel_rfl) (by kernel_rfl) (by kernel_rfl) Tryz.underlying131 (by kernel_rfl) (by kernel_rfl) j hj,
  fun j hj => tab_in h 1 0 131 modeTab "joystick/cpu.modes" (by kernel_rfl) (by kernel_rfl) (by kernel_rfl) Tryz.underlying131 (by kernel_rfl) (by kernel_rfl) j hj⟩
end
end Go.Proofs.YtgdeeiimkhjfiaaGreatDoor
