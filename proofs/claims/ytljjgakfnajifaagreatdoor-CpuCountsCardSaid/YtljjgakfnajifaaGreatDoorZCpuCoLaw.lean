import Derived.Test.YtljjgakfnajifaaGreatDoorZCpuAw
import Derived.Deep.Cut
import Derived.Deep.CutRange
import Derived.ProofKit
import Derived.OpenShut
import Derived.ChangeOld
import Derived.Below
import Derived.Lib.SmallJoins
import Derived.ChangeArms
import Derived.LaidMore
import Derived.Stop.Joined
import Derived.Lib.LaidTab
import Derived.MakeChecks
import Derived.SevenTiedAt
import Derived.Test.YtljjgakfnajifaaGreatDoorTie
import Derived.Test.YtljjgakfnajifaaGreatDoorCards
namespace Go.Proofs.YtljjgakfnajifaaGreatDoor
open Go.RowKit
theorem box_cnt {W0 w : World} {l : Blocks} {g : Nat} (h : Hid (Own W0 w ((g, 5, [.int .u8 60, .int .u8 16, .int .u8 253, .int .u8 118]) :: l))) :
    Calls Tryz.prog 14 #[.int .u16 0, .slice (some ⟨g, 0, none⟩) 4 4, .int .u8 0] w fun e w' => ∃ b, e = .returned (.pointer (some ⟨b, 0, none⟩)) ∧ Hid (Bx W0 w' b ⟨lay (bas 0) 0 [60, 16, 253, 118], []⟩ ((g, 5, [.int .u8 60, .int .u8 16, .int .u8 253, .int .u8 118]) :: l) 1000000) :=
  box_at 0 0 4 [60, 16, 253, 118] _ (by decide) (by decide) (Lib.hid (reads_own [60, 16, 253, 118] (by decide))) h
theorem box_cnt_made (w : World) : (Instr.buildSlice 30 4 #[(0, .int .u8 60), (1, .int .u8 16), (2, .int .u8 253), (3, .int .u8 118)]).run Tryz.prog w = .ok (.slice (some ⟨w.heap.size, 0, none⟩) 4 4) (w.alloc (.cells ([.int .u8 60, .int .u8 16, .int .u8 253, .int .u8 118] : List Value).toArray 5)) := by kernel_rfl
theorem build_cnt (n a : Nat) (w : World) : (Instr.build 25 #[(2, .int .u8 (n : Int)), (0, .int .u8 (a : Int))]).run Tryz.prog w = .ok ({ rg0 with a := a, b := n } : Rg).v w := by kernel_rfl
theorem cnt_fits (n a : Nat) (hn : n < 256) (ha : a < 256) : ({ rg0 with a := a, b := n } : Rg).Fits := { rg0_fits with a := ha, b := hn }
theorem cnt_begin (n a : Nat) (hn : n < 256) (ha : a < 256) : CntAt a n 0 0 ({ rg0 with a := a, b := n } : Rg) := by
  have h := cntN_pos n hn
  refine ⟨rfl, .inl ⟨rfl, 0, by omega, .inl ⟨rfl, rfl, rfl, ?_, ?_⟩⟩⟩
  · show a = (a + 0) % 256; omega
  · show n = (cntN n - 0) % 256; omega
theorem cnt_small (A n t clk : Nat) (r : Rg) (hn : n < 256) (h : CntAt A n t clk r) : clk ≤ 4400 ∧ t ≤ 513 := by
  have hN := cntN_pos n hn
  obtain ⟨_, ⟨_, j, hj, h | h⟩ | h | h⟩ := h <;> omega
theorem cnt_end (A n t clk : Nat) (r : Rg) (h : CntAt A n t clk r) (hh : r.ht = true) : t = 2 * cntN n + 1 ∧ clk = 17 * cntN n - 5 + 4 ∧ r.pc = 4 ∧ r.a = (A + cntN n) % 256 ∧ r.b = 0 := by
  obtain ⟨_, ⟨h, _⟩ | ⟨h, _⟩ | h⟩ := h
  · rw [hh] at h; cases h
  · rw [hh] at h; cases h
  · exact h.2
theorem lay_four (f x y z v : Nat) : lay (bas f) 0 [x, y, z, v] 0 = x ∧ lay (bas f) 0 [x, y, z, v] 1 = y ∧ lay (bas f) 0 [x, y, z, v] 2 = z ∧ lay (bas f) 0 [x, y, z, v] 3 = v := by
  refine ⟨?_, ?_, ?_, ?_⟩ <;> (rw [lay_zero _ _ _ (by omega) (by simp)]; rfl)
set_option maxRecDepth 100000 in
set_option maxHeartbeats 1600000 in
theorem counts_any (n a : Nat) (hn : n < 256) (ha : a < 256) (w : World) (hT : Tabs w) : Calls Tryz.prog 12 #[.int .u8 (n : Int), .int .u8 (a : Int)] w fun e w' => e = .returned (.bool true) ∧ Below w.heap.size w w' := by
  have HT := Lib.hid hT
  clear hT
  have HM := Lib.hid (Own.start w)
  have HC := Lib.hid (cnt_begin n a hn ha)
  have HFT := Lib.hid (cnt_fits n a hn ha)
  have tg1 : Hid True := trivial
  have tg2 : Hid True := trivial
  go_enter Tryz.func12, Tryz.ntmps12
  go_upto_region 6 with (first
    | (go_at_call 16; (with_reducible refine (cpuAlive_any _ (Tabs.own HT HM)).mono ?_); rintro e w' ⟨rfl, hb⟩; have HM' := Lib.hid (HM.out.call hb); clear HM hb; have HM := HM'; clear HM')
    | ((with_reducible apply own_made (cs := [.int .u8 60, .int .u8 16, .int .u8 253, .int .u8 118]) (e := 5) (n := 4) HM); exact rfl; exact box_cnt_made; (focus (go_simp; done)); exact rfl; (first | (clear tg1; intro w' g1 HM') | (clear tg2; intro w' g2 HM') | (clear tg3; intro w' g3 HM') | (clear tg4; intro w' g4 HM')); clear HM; have HM := HM'; clear HM'; all_goals skip)
    | (go_at_call 14; (with_reducible refine (box_cnt HM).mono ?_); rintro e w' ⟨b, rfl, hB⟩; obtain ⟨hg, X, hX, hO⟩ := hB.out; simp only [List.cons_append, List.nil_append] at hO; have HG := Lib.hid hg; have HX := Lib.hid hX; have HM' := Lib.hid hO; clear hg hX hO hB HM; have HM := HM'; clear HM')
    | ((with_reducible apply own_built2 (build_cnt n a)); exact rfl; exact rfl; exact rfl; exact rfl; all_goals skip)
    | ((with_reducible apply own_alloc HM); exact rfl; (with_reducible exact zeroR); exact rfl; (first | (clear tg1; intro w' g1 HM') | (clear tg2; intro w' g2 HM') | (clear tg3; intro w' g3 HM') | (clear tg4; intro w' g4 HM') | (clear tg5; intro w' g5 HM') | (clear tg6; intro w' g6 HM')); clear HM; have HM := HM'; clear HM'; all_goals skip) | ((with_reducible apply own_lay HM); exact rfl; exact rfl; exact rfl; (first | with_reducible exact .z | with_reducible exact .s .z | with_reducible exact .s (.s .z) | with_reducible exact .s (.s (.s .z)) | with_reducible exact .s (.s (.s (.s .z))) | with_reducible exact .s (.s (.s (.s (.s .z))))); (first | with_reducible exact .z | with_reducible exact .s .z | with_reducible exact .s (.s .z) | with_reducible exact .s (.s (.s .z)) | with_reducible exact .s (.s (.s (.s .z))) | with_reducible exact .s (.s (.s (.s (.s .z))))); exact aggR.size; (first | exact Rg.cells_length _ | exact rfl); (first | exact Rg.cells_length _ | exact rfl); (first | exact Rg.one1 _ | exact rfl); exact rfl; exact rfl; intro w' HM'; clear HM; have HM := HM'; clear HM'; all_goals skip))
  go_loopw [7, 8] (fun c7 c8 wr => ∃ (r : Rg) (u : U) (X : Blocks) (t clk : Nat), c7 = .int .i64 (clk : Int) ∧ c8 = .int .i64 (t : Int) ∧ Hid r.Fits ∧ Hid (CntAt a n t clk r) ∧ Hid (u.m = lay (bas 0) 0 [60, 16, 253, 118]) ∧ Hid (u.Good (1000000 - 6 * t)) ∧ Hid (IsBox X b u) ∧ Hid (Own w wr ((g2, 25, r.cells) :: (g1, 5, [.int .u8 60, .int .u8 16, .int .u8 253, .int .u8 118]) :: X))) (fun _ i _ => 1000 - (intOf i).toNat)
  case atStart => exact ⟨_, _, X, 0, 0, rfl, rfl, HFT, HC, Lib.hid rfl, HG, HX, HM⟩
  case round =>
    clear HM HG HX HC HFT
    obtain ⟨r, u, X, t, clk, rfl, rfl, HR, HC, HU, HG, HX, HM⟩ := hrel
    have hsm := cnt_small a n t clk r hn HC.out
    have t1 : (t : Int) < 1000 := by omega
    have t2 : (clk : Int) ≤ 4400 := by omega
    cases hh : r.ht
    · obtain ⟨r', hr'⟩ : ∃ x, Hid (stepR r u = x) := ⟨_, rfl⟩
      obtain ⟨k', hk'⟩ : ∃ x, Hid (stepN r u = x) := ⟨_, rfl⟩
      obtain ⟨u', hu'⟩ : ∃ x, Hid (stepU r u = x) := ⟨_, rfl⟩
      obtain ⟨m0, m1, m2, m3⟩ := lay_four 0 60 16 253 118
      have hst := cnt_step a n t clk hn r u HC.out hh (by rw [HU.out, m0]) (by rw [HU.out, m1]) (by rw [HU.out, m2]) (by rw [HU.out, m3])
      rw [hr'.out, hk'.out, hu'.out] at hst
      obtain ⟨hc', hm', ht'⟩ := hst
      have hsm' := cnt_small a n (t + 1) (clk + k') r' hn hc'
      have k1 : (clk : Int) + (k' : Int) ≤ 4400 := by omega
      have HC' := Lib.hid hc'
      have HU' : Hid (u'.m = lay (bas 0) 0 [60, 16, 253, 118]) := Lib.hid (hm'.trans HU.out)
      have HG2 : Hid (u.Good (1000000 - 6 * (t + 1) + 6)) := Lib.hid (HG.out.less (by omega))
      clear hc' hm' HC HU HG hsm hsm' m0 m1 m2 m3
      have HG := HG2
      clear HG2
      have tg3 : Hid True := trivial
      go_wp2_with (first
        | ((with_reducible apply own_row HM); exact rfl; exact rfl; exact aggR; (first | with_reducible exact .z | with_reducible exact .s .z | with_reducible exact .s (.s .z) | with_reducible exact .s (.s (.s .z)) | with_reducible exact .s (.s (.s (.s .z))) | with_reducible exact .s (.s (.s (.s (.s .z))))); exact rfl; (first | exact Rg.cells_length _ | exact rfl); all_goals skip) | ((with_reducible apply own_get HM); exact rfl; exact rfl; (first | (with_reducible exact oneU8) | (with_reducible exact oneU16) | (with_reducible exact oneBool) | (with_reducible exact oneInt)); (first | with_reducible exact .z | with_reducible exact .s .z | with_reducible exact .s (.s .z) | with_reducible exact .s (.s (.s .z)) | with_reducible exact .s (.s (.s (.s .z))) | with_reducible exact .s (.s (.s (.s (.s .z))))); (conv => lhs; whnf); exact rfl; all_goals skip)
        | (go_at_call 13; have hbx : Hid (Bx _ _ b _ [_, _] _) := Lib.hid ⟨HG.out, X, HX.out, HM.out⟩; (with_reducible refine (step_to HT HR hr' hk' hu' hbx).mono ?_); clear hbx; rintro e w' ⟨rfl, HR', hB⟩; obtain ⟨hg, X', hX, hO⟩ := hB.out; simp only [List.cons_append, List.nil_append] at hO; have HG' := Lib.hid hg; have HX' := Lib.hid hX; have HM' := Lib.hid hO; clear hg hX hO hB; clear HM HG HX HR; have HM := HM'; have HG := HG'; have HX := HX'; have HR := HR'; clear HM' HG' HX' HR')
        | ((with_reducible apply own_alloc HM); exact rfl; (with_reducible exact zeroR); exact rfl; (first | (clear tg1; intro w' g1 HM') | (clear tg2; intro w' g2 HM') | (clear tg3; intro w' g3 HM') | (clear tg4; intro w' g4 HM') | (clear tg5; intro w' g5 HM') | (clear tg6; intro w' g6 HM')); clear HM; have HM := HM'; clear HM'; all_goals skip) | ((with_reducible apply own_lay HM); exact rfl; exact rfl; exact rfl; (first | with_reducible exact .z | with_reducible exact .s .z | with_reducible exact .s (.s .z) | with_reducible exact .s (.s (.s .z)) | with_reducible exact .s (.s (.s (.s .z))) | with_reducible exact .s (.s (.s (.s (.s .z))))); (first | with_reducible exact .z | with_reducible exact .s .z | with_reducible exact .s (.s .z) | with_reducible exact .s (.s (.s .z)) | with_reducible exact .s (.s (.s (.s .z))) | with_reducible exact .s (.s (.s (.s (.s .z))))); exact aggR.size; (first | exact Rg.cells_length _ | exact rfl); (first | exact Rg.cells_length _ | exact rfl); (first | exact Rg.one1 _ | exact rfl); exact rfl; exact rfl; intro w' HM'; clear HM; have HM := HM'; clear HM'; all_goals skip))
      go_roundw
      case rel => exact ⟨r', u', X', t + 1, clk + k', by go_num, by go_num, HR, HC', HU', HG, HX, Lib.hid HM.out.rest⟩
      case measure => simp [intOf]; omega
    · obtain ⟨q1, q2, q3, q4, q5⟩ := cnt_end a n t clk r HC.out hh
      have p3 : ((r.pc : Int) == 4) = true := by rw [q3]; rfl
      have p5 : ((r.b : Int) == 0) = true := by rw [q5]; rfl
      by_cases h0 : n = 0
      · subst h0
        have hN : cntN 0 = 256 := rfl
        rw [hN] at q1 q2 q4
        have p4 : ((r.a : Int) == (a : Int)) = true := by rw [q4]; simp; omega
        have p1 : ((t : Int) == 513) = true := by rw [q1]; rfl
        have p2 : ((clk : Int) == 4351) = true := by rw [q2]; rfl
        clear q1 q2 q3 q4 q5 hsm t1 t2
        go_wp2_with (first
          | ((with_reducible apply own_get HM); exact rfl; exact rfl; (first | (with_reducible exact oneU8) | (with_reducible exact oneU16) | (with_reducible exact oneBool) | (with_reducible exact oneInt)); (first | with_reducible exact .z | with_reducible exact .s .z | with_reducible exact .s (.s .z) | with_reducible exact .s (.s (.s .z)) | with_reducible exact .s (.s (.s (.s .z))) | with_reducible exact .s (.s (.s (.s (.s .z))))); (conv => lhs; whnf); exact rfl; all_goals skip))
        go_ret
        exact ⟨rfl, Own.fin HM⟩
      · have hN : cntN n = n := if_neg h0
        rw [hN] at q1 q2 q4
        have n0 : ((n : Int) == 0) = false := by simp; omega
        have n1 : (n : Int) < 256 := by omega
        have p4 : IntKind.u8.wrap ((a : Int) + (n : Int)) = (r.a : Int) := by rw [q4]; show ((a : Int) + (n : Int)) % 256 = _; omega
        have p1 : ((t : Int) == 2 * (n : Int) + 1) = true := by rw [q1]; simp
        have p2 : ((clk : Int) == 17 * (n : Int) - 5 + 4) = true := by rw [q2]; simp; omega
        clear q1 q2 q3 q4 q5 hsm t1 t2 h0
        go_wp2_with (first
          | ((with_reducible apply own_get HM); exact rfl; exact rfl; (first | (with_reducible exact oneU8) | (with_reducible exact oneU16) | (with_reducible exact oneBool) | (with_reducible exact oneInt)); (first | with_reducible exact .z | with_reducible exact .s .z | with_reducible exact .s (.s .z) | with_reducible exact .s (.s (.s .z)) | with_reducible exact .s (.s (.s (.s .z))) | with_reducible exact .s (.s (.s (.s (.s .z))))); (conv => lhs; whnf); exact rfl; all_goals skip))
        go_ret
        exact ⟨rfl, Own.fin HM⟩
end Go.Proofs.YtljjgakfnajifaaGreatDoor
namespace Go.Proofs.YtljjgakfnajifaaGreatDoor.cpuCounts
open Go.ChangeShapes Go.WideShapes Go.ChangeAt Go.RowKit
theorem own : ownKnob Tryz.prog.godebug = none := by kernel_rfl
theorem door_met (os : Os) (args : Array Value) : laidMetH Tryz.prog Rows.cpuCountsRow.laid ((World.doorLaid Tryz.prog 400 os).forCall (fun _ _ => 0) ⟨#[], args, []⟩).memory :=
  laidMetH_of_parts3 (fuel := 8) (laidMet_of_run' 8 (by kernel_rfl) (by kernel_rfl)) (by kernel_rfl) (by kernel_rfl)
theorem laidOut : laidOutB Tryz.prog = true := by kernel_rfl
set_option maxRecDepth 100000 in
set_option maxHeartbeats 6400000 in
theorem lifted (os : Os) (started : os.Started) (H : Type) (enc : TypeId × Value → H) :
    ReturnsInHanded {} Tryz.checked os 12 .any (fun w args => (Rows.cpuCountsSpec.pre enc Tryz.prog Tryz.f12 [] false w args ∧ laidMetH Tryz.prog Rows.cpuCountsRow.laid w) ∧ sizedMet enc Tryz.prog Tryz.f12 (OpenSpec.ofChange Rows.cpuCountsSpec) false w args) (Rows.cpuCountsSpec.post enc Tryz.prog Tryz.f12 false true false false) := by
  refine returnsInHanded_of_change_and (C := Tryz.checked) (X := fun w _ => laidMetH Tryz.prog Rows.cpuCountsRow.laid w) (fun _ _ _ hh h => h.of_heap hh) own started (by kernel_rfl) Tryz.func12
    (ChangeSpec.witness_shaped (enc := enc) (C := Tryz.checked) (os := os) (X := fun w _ => laidMetH Tryz.prog Rows.cpuCountsRow.laid w) false (World.doorLaid Tryz.prog 400 os) #[.int .u8 0, .int .u8 0] 8 rfl (World.shaped_of_RefB (by kernel_rfl) (by kernel_rfl)) (by kernel_rfl) (by kernel_rfl) (by kernel_rfl) (door_met os _)) ?_
  intro W base args ds gs before hval0 hW _ _ hL _
  have hT := tabs_of hL
  have hval : ∀ (j : Nat) t v, Tryz.f12.params[j]? = some t → args[j]? = some v → Value.okWide Tryz.prog W .any base t v := hval0
  have hW' := hW
  obtain ⟨p, q, hA0, hV, rfl, hfz, hnd⟩ := hW
  have hA : DataW.TrodAll enc Tryz.prog W 0 (fun _ => true) true Tryz.f12.params.toList args.toList ds p := hA0
  rw [Tryz.params12] at hA hval
  obtain ⟨v0, vs0, d0, ds0, p0, q0, hargs, rfl, rfl, h0, r0⟩ := trodAll_cons hA
  obtain ⟨v1, vs1, d1, ds1, p1, q1, rfl, rfl, rfl, h1, r1⟩ := trodAll_cons r0
  obtain ⟨rfl, rfl, rfl⟩ := trodAll_nil r1
  obtain rfl : args = #[v0, v1] := by cases args; simp_all
  obtain ⟨rfl, rfl⟩ := trodVars_none hV
  have k0 := h0
  have lt0 : ∀ x ∈ p0, x.block < W.heap.size := by obtain ⟨m, hm⟩ := k0; exact DataW.trod_lt m _ _ _ hm
  have k1 := h1
  have lt1 : ∀ x ∈ p1, x.block < W.heap.size := by obtain ⟨m, hm⟩ := k1; exact DataW.trod_lt m _ _ _ hm
  obtain ⟨x0, rfl, rfl, rfl, w0⟩ := open_int Tryz.underlying5 (hval 0 5 v0 rfl rfl) h0
  have b0 := bounds_u8 w0
  obtain ⟨a0, rfl⟩ := Int.eq_ofNat_of_zero_le b0.1
  obtain ⟨x1, rfl, rfl, rfl, w1⟩ := open_int Tryz.underlying5 (hval 1 5 v1 rfl rfl) h1
  have b1 := bounds_u8 w1
  obtain ⟨a1, rfl⟩ := Int.eq_ofNat_of_zero_le b1.1
  clear hA0 hval0
  refine ((counts_any a0 a1 (by omega) (by omega) W hT)).mono fun e W' ⟨he, bel⟩ => ?_
  subst he
  exact ⟨_, rfl, _, _, _, [], _, [], hW', trodAll_mk1 (shut_bool Tryz.underlying4 _), (trodAll_cons_mk (Below.trod laidOut (by kernel_rfl) (of_decide_eq_true (by kernel_rfl)) k0 bel lt0) (trodAll_cons_mk (Below.trod laidOut (by kernel_rfl) (of_decide_eq_true (by kernel_rfl)) k1 bel lt1) trodAll_mk0)), rfl, bel.frame _, fun h => by cases h⟩
theorem over : Rows.cpuCountsRow.holds Tryz.pinned (OpenSpec.ofChange Rows.cpuCountsSpec) :=
  OpenClaim.holds_of_wide 12 Tryz.f12 rfl rfl rfl rfl rfl rfl rfl ⟨rfl, rfl, rfl, rfl, rfl⟩ rfl rfl rfl rfl rfl (by kernel_rfl) Tryz.func12 (by kernel_rfl)
    (of_decide_eq_true (by kernel_rfl)) (by unfold Func.isWrapper; first | (rw [if_pos (by decide +kernel)]; kernel_rfl) | (rw [if_neg (by decide +kernel)]; exact ⟨rfl, rfl⟩))
    (fun os started H enc _ => lifted os started H enc)
theorem proved : Rows.CpuCountsCardSaid :=
  Claim7.holds_tied_plain_at .later [] [.data, .data] true _ false
    over (fun _ h => by cases h) (by kernel_rfl) (fun _ h => by cases h) cpuCounts_row_tie rfl ⟨rfl, rfl⟩ (by kernel_rfl) rfl
    (fun f fn hf hfn => by
      obtain rfl : f = 12 := Option.some.inj ((show Tryz.prog.funcNamed "joystick/joysticklaw12.CpuCounts" = some 12 by kernel_rfl).symm.trans hf) |>.symm
      obtain rfl : fn = Tryz.f12 := (Option.some.inj (Tryz.func12.symm.trans hfn)).symm
      exact ⟨by kernel_rfl, fun j t ht => by
        rw [Tryz.params12] at ht
        have hm : t ∈ [5, 5] := by simpa using Array.mem_of_getElem? ht
        have hall : ([5, 5].all fun u => !Tryz.prog.wantsStandIn u) = true := by kernel_rfl
        exact (show Tryz.prog.wantsStandIn t = false by simpa using List.all_eq_true.1 hall t hm)⟩)
    (by kernel_rfl)
end Go.Proofs.YtljjgakfnajifaaGreatDoor.cpuCounts
