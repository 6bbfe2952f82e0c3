import Derived.Test.YtljjgakfnajifaaGreatDoorZBase
import Derived.Test.YtljjgakfnajifaaGreatDoorZCpuAw
import Derived.OrdersHeld
import Derived.BigQuiet
import Derived.Deep.Cut
import Derived.Deep.CutRange
import Derived.ProofKit
import Derived.OpenShut
import Derived.ChangeOld
import Derived.Below
import Derived.Lib.SmallJoins
import Derived.ChangeArms
import Derived.LaidMore
import Derived.Stop.Joined
import Derived.Lib.LaidTab
import Derived.MakeChecks
import Derived.SevenTiedAt
import Derived.Test.YtljjgakfnajifaaGreatDoorTie
import Derived.Test.YtljjgakfnajifaaGreatDoorCards
namespace Go.Proofs.YtljjgakfnajifaaGreatDoor
open Go.RowKit
section
variable {P : Program} {W0 w : World} {l l' : List (Nat × TypeId × List Value)} {ops : Array Oper} {o : Oper} {a : Act} {Q : Exit → Act → World → Prop} {K : Act → World → Prop} {S : World → Prop} {v : Value}
theorem wpOp_of {i : Nat} (hi : ops[i]? = some o) (hw : Region.wanted o (yielded ops a.tmps) = true) (h : o.wp P a w K Q) : wpOp P ops Q i K a w := by
  unfold wpOp; simp only [hi, hw, if_true]; exact .inl h
theorem y_cell {ty t : TypeId} {x : Operand} {g off : Nat} {cs r : List Value} (ho : o.op = .load ty x) (hx : a.eval x = .pointer (some ⟨g, off, none⟩)) (hty : One P ty)
    (hs : Sel l g t cs) (hd : Drop cs off (v :: r)) (hw : Region.wanted o (yielded ops a.tmps) = true) : YieldsIf P ops (fun w' => Own W0 w' l) o v a := by
  refine .inl ⟨hw, fun w hC => ?_⟩
  have hc : w.cell? ⟨g, off, none⟩ = some v := by
    rw [(hC.at_ hs).at_]
    have e1 := hd.eq
    have : (cs.drop off)[0]? = some v := by rw [e1]; rfl
    simpa using this
  unfold execOp
  simp only [ho, hx, Instr.loadAt, Instr.sureAddr, Sem.run_bind, Sem.run_pure, Result.andThen_ok, run_loadVar_one w g off ty v hc hty]
theorem y_row {ty t : TypeId} {x : Operand} {g n : Nat} {cs : List Value} (ho : o.op = .load ty x) (hx : a.eval x = .pointer (some ⟨g, 0, none⟩)) (hty : Agg P ty n)
    (hs : Sel l g t cs) (hl : cs.length = n) (hw : Region.wanted o (yielded ops a.tmps) = true) : YieldsIf P ops (fun w' => Own W0 w' l) o (.agg cs.toArray) a := by
  obtain ⟨⟨d, hu, hr⟩, hsz⟩ := hty
  refine .inl ⟨hw, fun w hC => ?_⟩
  unfold execOp
  have hrun := run_loadVar_mid (P := P) w g 0 ty cs d (fun j v hv => by rw [(hC.at_ hs).at_, Nat.zero_add]; exact hv) hu hr (by rw [hl]; exact hsz)
  simp only [ho, hx, Instr.loadAt, Instr.sureAddr, Sem.run_bind, Sem.run_pure, Result.andThen_ok, hrun]
theorem y_pure (hw : Region.wanted o (yielded ops a.tmps) = true) (h : ∀ w, (execOp a.eval o).run P w = .ok (.value v) w) : YieldsIf P ops S o v a := .inl ⟨hw, fun w _ => h w⟩
theorem w_call {f : FuncId} {args args' : Array Value} (hx : ∀ w, (execOp a.eval o).run P w = .ok (.enter f args') w) (ha : args' = args) (hc : Calls P f args w fun e w' => ∃ u, e = .returned u ∧ K (a.put o.dst u) w') : o.wp P a w K Q := by
  subst ha
  unfold Oper.wp
  rw [hx w, Oper.upon_enter]
  exact hc.mono fun e w' ⟨u, he, hk⟩ => by subst he; exact hk
theorem h_take {md : Region.Mode} {i d : Nat} {oi : Oper} {fuel : Nat} {listed : Array Bool} (hi : ops[i]? = some oi) (hd : oi.dst = some d)
    (hs : Region.noSelect ops = true) (hf : Region.free md ops listed i = true) (hr : (Region.ready md ops listed).contains i = true)
    (hQ : ∀ c a w, Q (.panic c) (a.put (some d) v) w → Q (.panic c) a w) (hy : YieldsIf P ops S oi v a) (hS : S w)
    (h : wpAnyH P md ops Q S fuel (listed.setIfInBounds i true) (a.put (some d) v) w) : wpAnyH P md ops Q S (fuel + 1) listed a w :=
  wpAnyH_take hi hs hf hr (by rw [hd]; exact hQ) hy hS (by rw [hd]; exact h)
theorem w_alloc {ty : TypeId} {vs : List Value} (HM : Hid (Own W0 w l)) (ho : o.op = .alloc ty) (hz : Zero P ty vs)
    (h : ∀ w' g, Hid (Own W0 w' ((g, ty, vs) :: l)) → K (a.put o.dst (.pointer (some ⟨g, 0, none⟩))) w') : o.wp P a w K Q := by
  obtain ⟨z, hz, hv⟩ := hz
  unfold Oper.wp execOp
  simp only [ho, Instr.alloc, Sem.run_bind, hz, Result.andThen_ok, newVar, newRow, newObj, hv]
  exact h _ _ (HM.out.new ty vs)
theorem w_lay {ty t : TypeId} {x y : Operand} {g n : Nat} {cs vs : List Value} (HM : Hid (Own W0 w l)) (ho : o.op = .store ty x y) (hx : a.eval x = .pointer (some ⟨g, 0, none⟩)) (hv : a.eval y = .agg vs.toArray)
    (hsel : Sel l g t cs) (hs : Put l g t cs vs l') (hty : Size P ty n) (hn : vs.length = n) (hl : cs.length = n) (h1 : vs.all (·.oneCell') = true)
    (hd : o.dst = none) (h : ∀ w', Hid (Own W0 w' l') → K a w') : o.wp P a w K Q := by
  have h : ∀ w', Hid (Own W0 w' l') → K (a.put o.dst undef) w' := by rw [hd]; exact h
  have hwh := (HM.out.whole _ hsel.mem).2
  exact wp_store_row ty x y ho g vs.toArray hx hv t cs.toArray hwh (by unfold Size at hty; simpa [hn] using hty) (by simp [hl, hn]) (by simpa using h1) (h _ (HM.out.of_row hs))
end
end Go.Proofs.YtljjgakfnajifaaGreatDoor
namespace Go.Proofs.YtljjgakfnajifaaGreatDoor
open Go.RowKit
def nmA : Rg := { rg0 with px := 221, pc := 1, r := 1 }
def nmB : Rg := { rg0 with ix := 513, pc := 4, r := 2 }
def nmC0 : Rg := { rg0 with pc := 7, ht := true }
def nmC : Rg := { rg0 with pc := 7, r := 1, ht := true }
def nmD : Rg := { rg0 with q1 := true, dl := true }
def nmE0 : Rg := { rg0 with q1 := true, q2 := true, pc := 5, ht := true, im := 1 }
def nmE : Rg := { rg0 with pc := 56, wz := 56, sp := 65534, r := 1, im := 1 }
def nmF0 : Rg := { rg0 with q1 := true, q2 := true, pc := 5 }
def nmF : Rg := { rg0 with q2 := true, pc := 102, wz := 102, sp := 65534, r := 1 }
theorem nmA_fits : nmA.Fits := { rg0_fits with px := (by decide), pc := (by decide), r := (by decide) }
theorem nmC0_fits : nmC0.Fits := { rg0_fits with pc := (by decide) }
theorem nmD_fits : nmD.Fits := { rg0_fits with }
theorem nmE0_fits : nmE0.Fits := { rg0_fits with pc := (by decide), im := (by decide) }
theorem nmF0_fits : nmF0.Fits := { rg0_fits with pc := (by decide) }
def uL (ys : List Nat) : U := ⟨lay (bas 0) 0 ys, []⟩
theorem nm_a : stepR rg0 (uL [221]) = nmA ∧ stepN rg0 (uL [221]) = 4 := ⟨by kernel_rfl, by kernel_rfl⟩
theorem nm_b : stepR nmA (uL [221, 33, 1, 2]) = nmB ∧ stepN nmA (uL [221, 33, 1, 2]) = 10 := ⟨by kernel_rfl, by kernel_rfl⟩
theorem nm_c : stepR nmC0 (uL []) = nmC ∧ stepN nmC0 (uL []) = 4 := ⟨by kernel_rfl, by kernel_rfl⟩
theorem nm_d : (Cs.inter ⟨nmD, 0, uL []⟩ false true).r = nmD ∧ Cs.interC ⟨nmD, 0, uL []⟩ false true = 0 := ⟨by kernel_rfl, by kernel_rfl⟩
theorem nm_e : (Cs.inter ⟨nmE0, 0, uL []⟩ false true).r = nmE ∧ Cs.interC ⟨nmE0, 0, uL []⟩ false true = 13 := ⟨by kernel_rfl, by kernel_rfl⟩
theorem nm_f : (Cs.inter ⟨nmF0, 0, uL []⟩ true true).r = nmF ∧ Cs.interC ⟨nmF0, 0, uL []⟩ true true = 11 := ⟨by kernel_rfl, by kernel_rfl⟩
section
variable {W0 w : World} {b n k : Nat} {l : Blocks} {r r' : Rg} {u : U}
theorem Own.subl {l l2 : Blocks} (h : Own W0 w l) (hs : l2.Sublist l) : Own W0 w l2 := ⟨h.below, fun e he => h.whole e (hs.subset he), h.apart.sublist hs⟩
theorem Bx.blocks (h : Bx W0 w b u l n) : Own W0 w l := by
  obtain ⟨X, _, h⟩ := h.own
  exact h.init
theorem nm_step (hr : r.Fits) (h1 : stepR r u = r' ∧ stepN r u = k) (hT : Hid (Tabs W0)) (h : Hid (Bx W0 w b u l (n + 6))) :
    Calls Tryz.prog 13 #[r.v, .iface 28 (.pointer (some ⟨b, 0, none⟩))] w fun e w' => e = .returned (.tuple #[r'.v, .int .i64 (k : Int)]) ∧ Hid (Own W0 w' l) := by
  rw [← h1.1, ← h1.2]
  exact (step_any hT r u hr h).mono fun _ _ ⟨he, _, hb⟩ => ⟨he, Lib.hid hb.out.blocks⟩
theorem nm_inter {pause line : Bool} (hr : r.Fits) (h1 : (Cs.inter ⟨r, 0, u⟩ pause line).r = r' ∧ Cs.interC ⟨r, 0, u⟩ pause line = k) (h : Hid (Bx W0 w b u l (n + 4))) :
    Calls Tryz.prog 15 #[r.v, .iface 28 (.pointer (some ⟨b, 0, none⟩)), .bool pause, .bool line] w fun e w' => e = .returned (.tuple #[r'.v, .int .i64 (k : Int)]) ∧ Hid (Own W0 w' l) := by
  rw [← h1.1, ← h1.2]
  exact (inter_any r u pause line hr h).mono fun _ _ ⟨he, _, hb⟩ => ⟨he, Lib.hid hb.out.blocks⟩
theorem do_a (hT : Hid (Tabs W0)) (h : Hid (Bx W0 w b (uL [221]) l (999994 + 6))) :
    Calls Tryz.prog 13 #[rg0.v, .iface 28 (.pointer (some ⟨b, 0, none⟩))] w fun e w' => e = .returned (.tuple #[nmA.v, .int .i64 4]) ∧ Hid (Own W0 w' l) := nm_step rg0_fits nm_a hT h
theorem do_b (hT : Hid (Tabs W0)) (h : Hid (Bx W0 w b (uL [221, 33, 1, 2]) l (999994 + 6))) :
    Calls Tryz.prog 13 #[nmA.v, .iface 28 (.pointer (some ⟨b, 0, none⟩))] w fun e w' => e = .returned (.tuple #[nmB.v, .int .i64 10]) ∧ Hid (Own W0 w' l) := nm_step nmA_fits nm_b hT h
theorem do_c (hT : Hid (Tabs W0)) (h : Hid (Bx W0 w b (uL []) l (999994 + 6))) :
    Calls Tryz.prog 13 #[nmC0.v, .iface 28 (.pointer (some ⟨b, 0, none⟩))] w fun e w' => e = .returned (.tuple #[nmC.v, .int .i64 4]) ∧ Hid (Own W0 w' l) := nm_step nmC0_fits nm_c hT h
theorem do_d (h : Hid (Bx W0 w b (uL []) l (999996 + 4))) :
    Calls Tryz.prog 15 #[nmD.v, .iface 28 (.pointer (some ⟨b, 0, none⟩)), .bool false, .bool true] w fun e w' => e = .returned (.tuple #[nmD.v, .int .i64 0]) ∧ Hid (Own W0 w' l) := nm_inter nmD_fits nm_d h
theorem do_e (h : Hid (Bx W0 w b (uL []) l (999996 + 4))) :
    Calls Tryz.prog 15 #[nmE0.v, .iface 28 (.pointer (some ⟨b, 0, none⟩)), .bool false, .bool true] w fun e w' => e = .returned (.tuple #[nmE.v, .int .i64 13]) ∧ Hid (Own W0 w' l) := nm_inter nmE0_fits nm_e h
theorem do_f (h : Hid (Bx W0 w b (uL []) l (999996 + 4))) :
    Calls Tryz.prog 15 #[nmF0.v, .iface 28 (.pointer (some ⟨b, 0, none⟩)), .bool true, .bool true] w fun e w' => e = .returned (.tuple #[nmF.v, .int .i64 11]) ∧ Hid (Own W0 w' l) := nm_inter nmF0_fits nm_f h
theorem box_nm1 {g : Nat} (h : Hid (Own W0 w ((g, 5, [.int .u8 221]) :: l))) :
    Calls Tryz.prog 14 #[.int .u16 0, .slice (some ⟨g, 0, none⟩) 1 1, .int .u8 0] w fun e w' => ∃ b, e = .returned (.pointer (some ⟨b, 0, none⟩)) ∧ Hid (Bx W0 w' b (uL [221]) ((g, 5, [.int .u8 221]) :: l) 1000000) :=
  box_at 0 0 1 [221] _ (by decide) (by decide) (Lib.hid (reads_own [221] (by decide))) h
theorem box_nm4' {g : Nat} {l' : Blocks} (hR : Reads W0 l' (some ⟨g, 0, none⟩) [221, 33, 1, 2]) (h : Hid (Own W0 w l')) :
    Calls Tryz.prog 14 #[.int .u16 0, .slice (some ⟨g, 0, none⟩) 4 4, .int .u8 0] w fun e w' => ∃ b, e = .returned (.pointer (some ⟨b, 0, none⟩)) ∧ Hid (Bx W0 w' b (uL [221, 33, 1, 2]) l' 1000000) :=
  box_at 0 0 4 [221, 33, 1, 2] _ (by decide) (by decide) (Lib.hid hR) h
theorem reads4 {g : Nat} {t : TypeId} : Reads W0 ((g, t, [.int .u8 221, .int .u8 33, .int .u8 1, .int .u8 2]) :: l) (some ⟨g, 0, none⟩) [221, 33, 1, 2] := reads_own [221, 33, 1, 2] (by decide)
theorem reads4' {g : Nat} {t : TypeId} {e : Nat × TypeId × List Value} : Reads W0 (e :: (g, t, [.int .u8 221, .int .u8 33, .int .u8 1, .int .u8 2]) :: l) (some ⟨g, 0, none⟩) [221, 33, 1, 2] :=
  ⟨by decide, fun _ => by
    obtain ⟨g', o, e1, h1⟩ := (reads4 (W0 := W0) (l := l) (g := g) (t := t)).2 (by decide)
    exact ⟨g', o, e1, fun w h => h1 w h.rest⟩⟩
theorem box_nm0 (h : Hid (Own W0 w l)) :
    Calls Tryz.prog 14 #[.int .u16 0, .slice none 0 0, .int .u8 0] w fun e w' => ∃ b, e = .returned (.pointer (some ⟨b, 0, none⟩)) ∧ Hid (Bx W0 w' b (uL []) l 1000000) :=
  box_at 0 0 0 [] _ (by decide) (by decide) (Lib.hid ⟨by decide, fun h => absurd h (by decide)⟩) h
end
theorem nm_made1 (w : World) : (Instr.buildSlice 30 1 #[(0, .int .u8 221)]).run Tryz.prog w = .ok (.slice (some ⟨w.heap.size, 0, none⟩) 1 1) (w.alloc (.cells ([.int .u8 221] : List Value).toArray 5)) := by kernel_rfl
theorem nm_made4 (w : World) : (Instr.buildSlice 30 4 #[(0, .int .u8 221), (1, .int .u8 33), (2, .int .u8 1), (3, .int .u8 2)]).run Tryz.prog w = .ok (.slice (some ⟨w.heap.size, 0, none⟩) 4 4) (w.alloc (.cells ([.int .u8 221, .int .u8 33, .int .u8 1, .int .u8 2] : List Value).toArray 5)) := by kernel_rfl
theorem nm_built0 (w : World) : (Instr.build 25 #[]).run Tryz.prog w = .ok rg0.v w := by kernel_rfl
theorem nm_builtC (w : World) : (Instr.build 25 #[(12, .int .u16 7), (20, .bool true)]).run Tryz.prog w = .ok nmC0.v w := by kernel_rfl
theorem nm_builtD (w : World) : (Instr.build 25 #[(18, .bool true), (21, .bool true)]).run Tryz.prog w = .ok nmD.v w := by kernel_rfl
theorem nm_builtE (w : World) : (Instr.build 25 #[(18, .bool true), (19, .bool true), (12, .int .u16 5), (20, .bool true), (16, .int .u8 1)]).run Tryz.prog w = .ok nmE0.v w := by kernel_rfl
theorem nm_builtF (w : World) : (Instr.build 25 #[(18, .bool true), (19, .bool true), (12, .int .u16 5)]).run Tryz.prog w = .ok nmF0.v w := by kernel_rfl
section
variable {P : Program} {W0 w : World} {l : Blocks} {ops : Array Oper} {o : Oper} {a : Act} {Q : Exit → Act → World → Prop} {K : Act → World → Prop}
theorem w_built4 {e : TypeId} {n : Nat} {cs : List Value} (HM : Hid (Own W0 w l)) {t : TypeId} {parts : Array (Nat × Operand)} (ho : o.op = .buildSlice t n parts) {parts' : Array (Nat × Value)} (hx : ∀ w, (Instr.buildSlice t n parts').run P w = .ok (.slice (some ⟨w.heap.size, 0, none⟩) n n) (w.alloc (.cells cs.toArray e))) (hp : (parts.map fun (i, x) => (i, a.eval x)) = parts')
    (h : ∀ w' g, Hid (Own W0 w' ((g, e, cs) :: l)) → K (a.put o.dst (.slice (some ⟨g, 0, none⟩) n n)) w') : o.wp P a w K Q := by
  unfold Oper.wp execOp
  simp only [ho, Sem.run_bind, hp]
  rw [hx]
  exact h _ _ (HM.out.new e cs)
end
theorem nm_same (w : World) : (Op.equalIn 10000 25 (.agg nmC.cells.toArray) (.agg #[.int .u8 0, .int .u8 0, .int .u8 0, .int .u8 0, .int .u8 0, .int .u8 0, .int .u8 0, .int .u8 0, .int .u8 0, .int .u8 0, .int .u8 0, .int .u8 0, .int .u8 0, .int .u8 0, .int .u8 0, .int .u8 0, .int .u16 0, .int .u16 0, .int .u16 0, .int .u16 7, .int .u16 0, .int .u8 0, .int .u8 1, .int .u8 0, .int .u8 0, .bool false, .bool false, .bool true, .bool false])).run Tryz.prog w = .ok true w := Rg.same nmC w
theorem fc_nmA_24 : nmA.cells[24]? = some (.int .u8 221) := rfl
theorem fc_nmB_16 : nmB.cells[16]? = some (.int .u16 513) := rfl
theorem fc_nmB_24 : nmB.cells[24]? = some (.int .u8 0) := rfl
theorem fc_nmD_28 : nmD.cells[28]? = some (.bool true) := rfl
theorem fc_nmE_19 : nmE.cells[19]? = some (.int .u16 56) := rfl
theorem fc_nmE_27 : nmE.cells[27]? = some (.bool false) := rfl
theorem fc_nmE_26 : nmE.cells[26]? = some (.bool false) := rfl
theorem fc_nmE_18 : nmE.cells[18]? = some (.int .u16 65534) := rfl
theorem fc_nmF_19 : nmF.cells[19]? = some (.int .u16 102) := rfl
theorem fc_nmF_25 : nmF.cells[25]? = some (.bool false) := rfl
theorem fc_nmF_26 : nmF.cells[26]? = some (.bool true) := rfl
end Go.Proofs.YtljjgakfnajifaaGreatDoor
namespace Go.Proofs.YtljjgakfnajifaaGreatDoor
open Go.RowKit
set_option maxRecDepth 100000 in
set_option maxHeartbeats 1600000 in
theorem nm_any (w : World) (hT : Tabs w) : Calls Tryz.prog 3 #[] w fun e w' => e = .returned (.bool true) ∧ Below w.heap.size w w' := by
  have HT := Lib.hid hT
  have HM := Lib.hid (Own.start w)
  have ES := nm_same
  clear hT
  go_enter Tryz.func3, Tryz.ntmps3
  go_upto_region 2 with (first
    | ((with_reducible apply own_made (cs := [.int .u8 221]) (e := 5) (n := 1) HM); exact rfl; exact nm_made1; (focus (go_simp; done)); exact rfl; intro w' gs HM'; clear HM; have HM := HM'; clear HM'; all_goals skip)
    | ((with_reducible apply own_built nm_built0); exact rfl; (focus (go_simp; done)); exact rfl; all_goals skip)
    | (go_at_call 14; (with_reducible refine (box_nm1 HM).mono ?_); rintro e w' ⟨b, rfl, HB⟩; clear HM)
    | (go_at_call 13; (with_reducible refine (do_a HT HB).mono ?_); rintro e w' ⟨rfl, HM⟩; clear HB)
    | ((with_reducible apply own_alloc HM); exact rfl; (with_reducible exact zeroR); exact rfl; intro w' gA HM'; clear HM; have HM := HM'; clear HM'; all_goals skip) | ((with_reducible apply own_lay HM); exact rfl; exact rfl; exact rfl; (with_reducible first | exact .z | exact .s .z | exact .s (.s .z) | exact .s (.s (.s .z)) | exact .s (.s (.s (.s .z)))); (with_reducible first | exact .z | exact .s .z | exact .s (.s .z) | exact .s (.s (.s .z)) | exact .s (.s (.s (.s .z)))); exact aggR.size; (first | exact Rg.cells_length _ | exact rfl); (first | exact Rg.cells_length _ | exact rfl); (first | exact Rg.one1 _ | exact rfl); exact rfl; exact rfl; clear HM; intro w' HM; all_goals skip))
  replace HM : Hid (Own w _ [(gA, 25, nmA.cells)]) := HM.out.subl (.cons_cons _ (List.nil_sublist _))
  go_cut [3, 4] from 21 to 28 (fun s3 s4 wx => ∃ g3, s3 = .pointer (some ⟨g3, 0, none⟩) ∧ s4 = .int .i64 10 ∧ Hid (Own w wx [(g3, 25, nmB.cells), (gA, 25, nmA.cells)]))
  case' first =>
    refine wp_region_held (S := fun w' => Own w w' [(gA, 25, nmA.cells)]) (by kernel_rfl) ?_
    replace HM := Lib.hid HM.out.drew
    change wpAnyH _ _ _ _ _ _ _ _ (World.drew _)
    refine h_take (i := 0) (d := 22) (v := .agg nmA.cells.toArray) rfl rfl (by kernel_rfl) (by kernel_rfl) (by kernel_rfl) (fun _ _ _ h => h) (y_row rfl rfl aggR .z (Rg.cells_length _) rfl) HM.out ?_
    (try simp only [Act.put, List.setIfInBounds_toArray, List.set_cons_zero, List.set_cons_succ])
    refine wpAnyH_all (rs := [1, 8]) (by kernel_rfl) (by simp) ?_
    intro i hi
    simp only [List.mem_cons, List.not_mem_nil, or_false] at hi
    rcases hi with rfl | rfl
    · refine wpOp_of rfl rfl ?_
      refine w_built4 (cs := [.int .u8 221, .int .u8 33, .int .u8 1, .int .u8 2]) (e := 5) (n := 4) HM rfl nm_made4 (by go_simp) ?_
      intro w' gs HM'
      clear HM; have HM := HM'; clear HM'
      refine ⟨HM.out.forget, ?_⟩
      change wpAnyH _ _ _ _ _ _ _ (Act.put _ (some 23) _) _
      (try simp only [Act.put, List.setIfInBounds_toArray, List.set_cons_zero, List.set_cons_succ])
      refine wpAnyH_all (rs := [2, 8]) (by kernel_rfl) (by simp) ?_
      intro i hi
      simp only [List.mem_cons, List.not_mem_nil, or_false] at hi
      rcases hi with rfl | rfl
      · refine wpOp_of rfl rfl ?_
        refine w_call (f := 14) (args := #[.int .u16 0, .slice (some ⟨gs, 0, none⟩) 4 4, .int .u8 0]) (fun w => rfl) (by go_simp) ?_
        refine (box_nm4' reads4 HM).mono ?_
        rintro e w' ⟨b, rfl, HB⟩
        clear HM
        refine ⟨_, rfl, (Bx.blocks HB.out).forget, ?_⟩
        change wpAnyH _ _ _ _ _ _ _ (Act.put _ (some 24) _) _
        (try simp only [Act.put, List.setIfInBounds_toArray, List.set_cons_zero, List.set_cons_succ])
        refine h_take (i := 3) (d := 25) (v := .iface 28 (.pointer (some ⟨b, 0, none⟩))) rfl rfl (by kernel_rfl) (by kernel_rfl) (by kernel_rfl) (fun _ _ _ h => h) (y_pure rfl (fun w => by go_simp)) ((Bx.blocks HB.out).forget) ?_
        (try simp only [Act.put, List.setIfInBounds_toArray, List.set_cons_zero, List.set_cons_succ])
        refine wpAnyH_all (rs := [4, 8]) (by kernel_rfl) (by simp) ?_
        intro i hi
        simp only [List.mem_cons, List.not_mem_nil, or_false] at hi
        rcases hi with rfl | rfl
        · refine wpOp_of rfl rfl ?_
          refine w_call (f := 13) (args := #[nmA.v, .iface 28 (.pointer (some ⟨b, 0, none⟩))]) (fun w => rfl) (by go_simp) ?_
          refine (do_b HT HB).mono ?_
          rintro e w' ⟨rfl, HM⟩
          clear HB
          refine ⟨_, rfl, HM.out.forget, ?_⟩
          change wpAnyH _ _ _ _ _ _ _ (Act.put _ (some 26) _) _
          (try simp only [Act.put, List.setIfInBounds_toArray, List.set_cons_zero, List.set_cons_succ])
          refine h_take (i := 5) (d := 21) (v := .tuple #[nmB.v, .int .i64 10]) rfl rfl (by kernel_rfl) (by kernel_rfl) (by kernel_rfl) (fun _ _ _ h => h) (y_pure rfl (fun w => rfl)) (HM.out.forget) ?_
          (try simp only [Act.put, List.setIfInBounds_toArray, List.set_cons_zero, List.set_cons_succ])
          refine h_take (i := 6) (d := 27) (v := nmB.v) rfl rfl (by kernel_rfl) (by kernel_rfl) (by kernel_rfl) (fun _ _ _ h => h) (y_pure rfl (fun w => rfl)) (HM.out.forget) ?_
          (try simp only [Act.put, List.setIfInBounds_toArray, List.set_cons_zero, List.set_cons_succ])
          refine h_take (i := 7) (d := 28) (v := .int .i64 10) rfl rfl (by kernel_rfl) (by kernel_rfl) (by kernel_rfl) (fun _ _ _ h => h) (y_pure rfl (fun w => rfl)) (HM.out.forget) ?_
          (try simp only [Act.put, List.setIfInBounds_toArray, List.set_cons_zero, List.set_cons_succ])
          refine wpAnyH_all (rs := [8]) (by kernel_rfl) (by simp) ?_
          intro i hi
          obtain rfl := List.mem_singleton.1 hi
          refine wpOp_of rfl rfl ?_
          refine w_alloc HM rfl zeroR ?_
          intro w' g3 HM'
          clear HM; have HM := HM'; clear HM'
          refine ⟨HM.out.forget.forget, ?_⟩
          change wpAnyH _ _ _ _ _ _ _ (Act.put _ (some 3) _) _
          (try simp only [Act.put, List.setIfInBounds_toArray, List.set_cons_zero, List.set_cons_succ])
          refine wpAnyH_all (rs := [9]) (by kernel_rfl) (by simp) ?_
          intro i hi
          obtain rfl := List.mem_singleton.1 hi
          refine wpOp_of rfl rfl ?_
          refine w_lay HM rfl rfl rfl (.z) (.z) aggR.size (Rg.cells_length _) (Rg.cells_length _) (Rg.one1 _) rfl ?_
          intro w' HM'
          clear HM; have HM := HM'; clear HM'
          refine ⟨HM.out.forget.forget, ?_⟩
          refine h_take (i := 10) (d := 4) (v := .int .i64 10) rfl rfl (by kernel_rfl) (by kernel_rfl) (by kernel_rfl) (fun _ _ _ h => h) (y_pure rfl (fun w => by go_simp)) (HM.out.forget.forget) ?_
          (try simp only [Act.put, List.setIfInBounds_toArray, List.set_cons_zero, List.set_cons_succ])
          refine wpAnyH_done (by kernel_rfl) ?_ _
          go_wp2_with fail
          go_meet
          exact ⟨g3, rfl, rfl, HM.out.subl (.cons_cons _ (.cons _ (List.Sublist.refl _)))⟩
        · refine wpOp_of rfl rfl ?_
          obtain ⟨X, hX, hO⟩ := HB.out.own
          refine w_alloc (Lib.hid hO) rfl zeroR ?_
          intro w' g3 HM'
          have HB' : Hid (Bx w w' b (uL [221, 33, 1, 2]) ((g3, 25, rg0.cells) :: [(gs, 5, [.int .u8 221, .int .u8 33, .int .u8 1, .int .u8 2]), (gA, 25, nmA.cells)]) 1000000) := ⟨HB.out.good, X, hX, HM'.out⟩
          clear HB HM' hX hO; have HB := HB'; clear HB'
          refine ⟨(Bx.blocks HB.out).forget.forget, ?_⟩
          change wpAnyH _ _ _ _ _ _ _ (Act.put _ (some 3) _) _
          (try simp only [Act.put, List.setIfInBounds_toArray, List.set_cons_zero, List.set_cons_succ])
          refine wpAnyH_all (rs := [4]) (by kernel_rfl) (by simp) ?_
          intro i hi
          obtain rfl := List.mem_singleton.1 hi
          refine wpOp_of rfl rfl ?_
          refine w_call (f := 13) (args := #[nmA.v, .iface 28 (.pointer (some ⟨b, 0, none⟩))]) (fun w => rfl) (by go_simp) ?_
          refine (do_b HT HB).mono ?_
          rintro e w' ⟨rfl, HM⟩
          clear HB
          refine ⟨_, rfl, HM.out.forget.forget, ?_⟩
          change wpAnyH _ _ _ _ _ _ _ (Act.put _ (some 26) _) _
          (try simp only [Act.put, List.setIfInBounds_toArray, List.set_cons_zero, List.set_cons_succ])
          refine h_take (i := 5) (d := 21) (v := .tuple #[nmB.v, .int .i64 10]) rfl rfl (by kernel_rfl) (by kernel_rfl) (by kernel_rfl) (fun _ _ _ h => h) (y_pure rfl (fun w => rfl)) (HM.out.forget.forget) ?_
          (try simp only [Act.put, List.setIfInBounds_toArray, List.set_cons_zero, List.set_cons_succ])
          refine h_take (i := 6) (d := 27) (v := nmB.v) rfl rfl (by kernel_rfl) (by kernel_rfl) (by kernel_rfl) (fun _ _ _ h => h) (y_pure rfl (fun w => rfl)) (HM.out.forget.forget) ?_
          (try simp only [Act.put, List.setIfInBounds_toArray, List.set_cons_zero, List.set_cons_succ])
          refine h_take (i := 7) (d := 28) (v := .int .i64 10) rfl rfl (by kernel_rfl) (by kernel_rfl) (by kernel_rfl) (fun _ _ _ h => h) (y_pure rfl (fun w => rfl)) (HM.out.forget.forget) ?_
          (try simp only [Act.put, List.setIfInBounds_toArray, List.set_cons_zero, List.set_cons_succ])
          refine wpAnyH_all (rs := [9]) (by kernel_rfl) (by simp) ?_
          intro i hi
          obtain rfl := List.mem_singleton.1 hi
          refine wpOp_of rfl rfl ?_
          refine w_lay HM rfl rfl rfl (.z) (.z) aggR.size (Rg.cells_length _) (Rg.cells_length _) (Rg.one1 _) rfl ?_
          intro w' HM'
          clear HM; have HM := HM'; clear HM'
          refine ⟨HM.out.forget.forget, ?_⟩
          refine h_take (i := 10) (d := 4) (v := .int .i64 10) rfl rfl (by kernel_rfl) (by kernel_rfl) (by kernel_rfl) (fun _ _ _ h => h) (y_pure rfl (fun w => by go_simp)) (HM.out.forget.forget) ?_
          (try simp only [Act.put, List.setIfInBounds_toArray, List.set_cons_zero, List.set_cons_succ])
          refine wpAnyH_done (by kernel_rfl) ?_ _
          go_wp2_with fail
          go_meet
          exact ⟨g3, rfl, rfl, HM.out.subl (.cons_cons _ (.cons _ (List.Sublist.refl _)))⟩
      · refine wpOp_of rfl rfl ?_
        refine w_alloc HM rfl zeroR ?_
        intro w' g3 HM'
        clear HM; have HM := HM'; clear HM'
        refine ⟨HM.out.forget.forget, ?_⟩
        change wpAnyH _ _ _ _ _ _ _ (Act.put _ (some 3) _) _
        (try simp only [Act.put, List.setIfInBounds_toArray, List.set_cons_zero, List.set_cons_succ])
        refine wpAnyH_all (rs := [2]) (by kernel_rfl) (by simp) ?_
        intro i hi
        obtain rfl := List.mem_singleton.1 hi
        refine wpOp_of rfl rfl ?_
        refine w_call (f := 14) (args := #[.int .u16 0, .slice (some ⟨gs, 0, none⟩) 4 4, .int .u8 0]) (fun w => rfl) (by go_simp) ?_
        refine (box_nm4' reads4' HM).mono ?_
        rintro e w' ⟨b, rfl, HB⟩
        clear HM
        refine ⟨_, rfl, (Bx.blocks HB.out).forget.forget, ?_⟩
        change wpAnyH _ _ _ _ _ _ _ (Act.put _ (some 24) _) _
        (try simp only [Act.put, List.setIfInBounds_toArray, List.set_cons_zero, List.set_cons_succ])
        refine h_take (i := 3) (d := 25) (v := .iface 28 (.pointer (some ⟨b, 0, none⟩))) rfl rfl (by kernel_rfl) (by kernel_rfl) (by kernel_rfl) (fun _ _ _ h => h) (y_pure rfl (fun w => by go_simp)) ((Bx.blocks HB.out).forget.forget) ?_
        (try simp only [Act.put, List.setIfInBounds_toArray, List.set_cons_zero, List.set_cons_succ])
        refine wpAnyH_all (rs := [4]) (by kernel_rfl) (by simp) ?_
        intro i hi
        obtain rfl := List.mem_singleton.1 hi
        refine wpOp_of rfl rfl ?_
        refine w_call (f := 13) (args := #[nmA.v, .iface 28 (.pointer (some ⟨b, 0, none⟩))]) (fun w => rfl) (by go_simp) ?_
        refine (do_b HT HB).mono ?_
        rintro e w' ⟨rfl, HM⟩
        clear HB
        refine ⟨_, rfl, HM.out.forget.forget, ?_⟩
        change wpAnyH _ _ _ _ _ _ _ (Act.put _ (some 26) _) _
        (try simp only [Act.put, List.setIfInBounds_toArray, List.set_cons_zero, List.set_cons_succ])
        refine h_take (i := 5) (d := 21) (v := .tuple #[nmB.v, .int .i64 10]) rfl rfl (by kernel_rfl) (by kernel_rfl) (by kernel_rfl) (fun _ _ _ h => h) (y_pure rfl (fun w => rfl)) (HM.out.forget.forget) ?_
        (try simp only [Act.put, List.setIfInBounds_toArray, List.set_cons_zero, List.set_cons_succ])
        refine h_take (i := 6) (d := 27) (v := nmB.v) rfl rfl (by kernel_rfl) (by kernel_rfl) (by kernel_rfl) (fun _ _ _ h => h) (y_pure rfl (fun w => rfl)) (HM.out.forget.forget) ?_
        (try simp only [Act.put, List.setIfInBounds_toArray, List.set_cons_zero, List.set_cons_succ])
        refine h_take (i := 7) (d := 28) (v := .int .i64 10) rfl rfl (by kernel_rfl) (by kernel_rfl) (by kernel_rfl) (fun _ _ _ h => h) (y_pure rfl (fun w => rfl)) (HM.out.forget.forget) ?_
        (try simp only [Act.put, List.setIfInBounds_toArray, List.set_cons_zero, List.set_cons_succ])
        refine wpAnyH_all (rs := [9]) (by kernel_rfl) (by simp) ?_
        intro i hi
        obtain rfl := List.mem_singleton.1 hi
        refine wpOp_of rfl rfl ?_
        refine w_lay HM rfl rfl rfl (.z) (.z) aggR.size (Rg.cells_length _) (Rg.cells_length _) (Rg.one1 _) rfl ?_
        intro w' HM'
        clear HM; have HM := HM'; clear HM'
        refine ⟨HM.out.forget.forget, ?_⟩
        refine h_take (i := 10) (d := 4) (v := .int .i64 10) rfl rfl (by kernel_rfl) (by kernel_rfl) (by kernel_rfl) (fun _ _ _ h => h) (y_pure rfl (fun w => by go_simp)) (HM.out.forget.forget) ?_
        (try simp only [Act.put, List.setIfInBounds_toArray, List.set_cons_zero, List.set_cons_succ])
        refine wpAnyH_done (by kernel_rfl) ?_ _
        go_wp2_with fail
        go_meet
        exact ⟨g3, rfl, rfl, HM.out.subl (.cons_cons _ (.cons _ (List.Sublist.refl _)))⟩
    · refine wpOp_of rfl rfl ?_
      refine w_alloc HM rfl zeroR ?_
      intro w' g3 HM'
      clear HM; have HM := HM'; clear HM'
      refine ⟨HM.out.forget, ?_⟩
      change wpAnyH _ _ _ _ _ _ _ (Act.put _ (some 3) _) _
      (try simp only [Act.put, List.setIfInBounds_toArray, List.set_cons_zero, List.set_cons_succ])
      refine wpAnyH_all (rs := [1]) (by kernel_rfl) (by simp) ?_
      intro i hi
      obtain rfl := List.mem_singleton.1 hi
      refine wpOp_of rfl rfl ?_
      refine w_built4 (cs := [.int .u8 221, .int .u8 33, .int .u8 1, .int .u8 2]) (e := 5) (n := 4) HM rfl nm_made4 (by go_simp) ?_
      intro w' gs HM'
      clear HM; have HM := HM'; clear HM'
      refine ⟨HM.out.forget.forget, ?_⟩
      change wpAnyH _ _ _ _ _ _ _ (Act.put _ (some 23) _) _
      (try simp only [Act.put, List.setIfInBounds_toArray, List.set_cons_zero, List.set_cons_succ])
      refine wpAnyH_all (rs := [2]) (by kernel_rfl) (by simp) ?_
      intro i hi
      obtain rfl := List.mem_singleton.1 hi
      refine wpOp_of rfl rfl ?_
      refine w_call (f := 14) (args := #[.int .u16 0, .slice (some ⟨gs, 0, none⟩) 4 4, .int .u8 0]) (fun w => rfl) (by go_simp) ?_
      refine (box_nm4' reads4 HM).mono ?_
      rintro e w' ⟨b, rfl, HB⟩
      clear HM
      refine ⟨_, rfl, (Bx.blocks HB.out).forget.forget, ?_⟩
      change wpAnyH _ _ _ _ _ _ _ (Act.put _ (some 24) _) _
      (try simp only [Act.put, List.setIfInBounds_toArray, List.set_cons_zero, List.set_cons_succ])
      refine h_take (i := 3) (d := 25) (v := .iface 28 (.pointer (some ⟨b, 0, none⟩))) rfl rfl (by kernel_rfl) (by kernel_rfl) (by kernel_rfl) (fun _ _ _ h => h) (y_pure rfl (fun w => by go_simp)) ((Bx.blocks HB.out).forget.forget) ?_
      (try simp only [Act.put, List.setIfInBounds_toArray, List.set_cons_zero, List.set_cons_succ])
      refine wpAnyH_all (rs := [4]) (by kernel_rfl) (by simp) ?_
      intro i hi
      obtain rfl := List.mem_singleton.1 hi
      refine wpOp_of rfl rfl ?_
      refine w_call (f := 13) (args := #[nmA.v, .iface 28 (.pointer (some ⟨b, 0, none⟩))]) (fun w => rfl) (by go_simp) ?_
      refine (do_b HT HB).mono ?_
      rintro e w' ⟨rfl, HM⟩
      clear HB
      refine ⟨_, rfl, HM.out.forget.forget, ?_⟩
      change wpAnyH _ _ _ _ _ _ _ (Act.put _ (some 26) _) _
      (try simp only [Act.put, List.setIfInBounds_toArray, List.set_cons_zero, List.set_cons_succ])
      refine h_take (i := 5) (d := 21) (v := .tuple #[nmB.v, .int .i64 10]) rfl rfl (by kernel_rfl) (by kernel_rfl) (by kernel_rfl) (fun _ _ _ h => h) (y_pure rfl (fun w => rfl)) (HM.out.forget.forget) ?_
      (try simp only [Act.put, List.setIfInBounds_toArray, List.set_cons_zero, List.set_cons_succ])
      refine h_take (i := 6) (d := 27) (v := nmB.v) rfl rfl (by kernel_rfl) (by kernel_rfl) (by kernel_rfl) (fun _ _ _ h => h) (y_pure rfl (fun w => rfl)) (HM.out.forget.forget) ?_
      (try simp only [Act.put, List.setIfInBounds_toArray, List.set_cons_zero, List.set_cons_succ])
      refine h_take (i := 7) (d := 28) (v := .int .i64 10) rfl rfl (by kernel_rfl) (by kernel_rfl) (by kernel_rfl) (fun _ _ _ h => h) (y_pure rfl (fun w => rfl)) (HM.out.forget.forget) ?_
      (try simp only [Act.put, List.setIfInBounds_toArray, List.set_cons_zero, List.set_cons_succ])
      refine wpAnyH_all (rs := [9]) (by kernel_rfl) (by simp) ?_
      intro i hi
      obtain rfl := List.mem_singleton.1 hi
      refine wpOp_of rfl rfl ?_
      refine w_lay HM rfl rfl rfl (.s .z) (.s .z) aggR.size (Rg.cells_length _) (Rg.cells_length _) (Rg.one1 _) rfl ?_
      intro w' HM'
      clear HM; have HM := HM'; clear HM'
      refine ⟨HM.out.forget.forget, ?_⟩
      refine h_take (i := 10) (d := 4) (v := .int .i64 10) rfl rfl (by kernel_rfl) (by kernel_rfl) (by kernel_rfl) (fun _ _ _ h => h) (y_pure rfl (fun w => by go_simp)) (HM.out.forget.forget) ?_
      (try simp only [Act.put, List.setIfInBounds_toArray, List.set_cons_zero, List.set_cons_succ])
      refine wpAnyH_done (by kernel_rfl) ?_ _
      go_wp2_with fail
      go_meet
      exact ⟨g3, rfl, rfl, HM.out.subl (.cons _ (List.Sublist.refl _))⟩
  case' rest =>
  clear HM
  obtain ⟨g3, rfl, rfl, HM⟩ := hcut
  have tq1 : Hid True := trivial
  have tq2 : Hid True := trivial
  have tq3 : Hid True := trivial
  have tq4 : Hid True := trivial
  go_upto_region 7 with (first
    | ((with_reducible apply own_built nm_builtC); exact rfl; (focus (go_simp; done)); exact rfl; all_goals skip)
    | ((with_reducible apply own_built nm_builtD); exact rfl; (focus (go_simp; done)); exact rfl; all_goals skip)
    | ((with_reducible apply own_built nm_builtE); exact rfl; (focus (go_simp; done)); exact rfl; all_goals skip)
    | ((with_reducible apply own_built nm_builtF); exact rfl; (focus (go_simp; done)); exact rfl; all_goals skip)
    | (go_at_call 14; (with_reducible refine (box_nm0 HM).mono ?_); rintro e w' ⟨b, rfl, HB⟩; clear HM)
    | (go_at_call 13; (with_reducible refine (do_c HT HB).mono ?_); rintro e w' ⟨rfl, HM⟩; clear HB)
    | (go_at_call 15; (with_reducible refine (do_d HB).mono ?_); rintro e w' ⟨rfl, HM⟩; clear HB)
    | (go_at_call 15; (with_reducible refine (do_e HB).mono ?_); rintro e w' ⟨rfl, HM⟩; clear HB)
    | (go_at_call 15; (with_reducible refine (do_f HB).mono ?_); rintro e w' ⟨rfl, HM⟩; clear HB)
    | ((with_reducible apply own_lay HM); exact rfl; exact rfl; exact rfl; (with_reducible first | exact .z | exact .s .z | exact .s (.s .z) | exact .s (.s (.s .z)) | exact .s (.s (.s (.s .z)))); (with_reducible first | exact .z | exact .s .z | exact .s (.s .z) | exact .s (.s (.s .z)) | exact .s (.s (.s (.s .z)))); exact aggR.size; (first | exact Rg.cells_length _ | exact rfl); (first | exact Rg.cells_length _ | exact rfl); (first | exact Rg.one1 _ | exact rfl); exact rfl; exact rfl; clear HM; intro w' HM; all_goals skip)
    | ((with_reducible apply own_alloc HM); exact rfl; (with_reducible exact zeroR); exact rfl; (first | (clear tq1; intro w' gC HM') | (clear tq2; intro w' gD HM') | (clear tq3; intro w' gE HM') | (clear tq4; intro w' gF HM')); clear HM; have HM := HM'; clear HM'; all_goals skip))
  simp only [List.append_eq, List.cons_append, List.nil_append]
  (refine own_inorder HM ?_; (try simp only [Act.put, List.setIfInBounds_toArray, List.set_cons_zero, List.set_cons_succ]); repeat ((fail_if_success (with_reducible refine wpQuiet_nil ?_)); first | go_big_quiet_skip | (go_big_quiet_want; first | ((with_reducible apply quiet_get); exact rfl; (first | (with_reducible exact oneU8) | (with_reducible exact oneU16) | (with_reducible exact oneBool)); (first | with_reducible exact .z | with_reducible exact .s .z | with_reducible exact .s (.s .z) | with_reducible exact .s (.s (.s .z)) | with_reducible exact .s (.s (.s (.s .z))) | with_reducible exact .s (.s (.s (.s (.s .z)))) | with_reducible exact .s (.s (.s (.s (.s (.s .z)))))); (first | exact fc_nmA_24 | exact fc_nmB_16 | exact fc_nmB_24 | exact fc_nmD_28 | exact fc_nmE_19 | exact fc_nmE_27 | exact fc_nmE_26 | exact fc_nmE_18 | exact fc_nmF_19 | exact fc_nmF_25 | exact fc_nmF_26); go_big_quiet_op; go_big_quiet_on) | ((with_reducible apply quiet_row); exact rfl; exact aggR; (with_reducible first | exact .z | exact .s .z | exact .s (.s .z) | exact .s (.s (.s .z)) | exact .s (.s (.s (.s .z)))); (first | exact Rg.cells_length _ | exact rfl); go_big_quiet_op; go_big_quiet_on) | ((with_reducible apply quiet_get); exact rfl; (first | (with_reducible exact oneU8) | (with_reducible exact oneU16) | (with_reducible exact oneBool)); (with_reducible first | exact .z | exact .s .z | exact .s (.s .z) | exact .s (.s (.s .z)) | exact .s (.s (.s (.s .z)))); exact rfl; go_big_quiet_op; go_big_quiet_on) | ((with_reducible apply quiet_load); exact rfl; (with_reducible exact aggAlt); (with_reducible first | exact .z | exact .s .z | exact .s (.s .z) | exact .s (.s (.s .z)) | exact .s (.s (.s (.s .z)))); exact Rg.altDrop _; exact Rg.altTake _; go_big_quiet_op; go_big_quiet_on) | ((with_reducible apply quiet_call); exact fun w => rfl; (focus (go_simp; all_goals with_reducible rfl)); (intro wq HQ; first | (exact cpuAlive_any _ (Tabs.own HT (Lib.hid HQ)))); go_big_quiet_op; go_big_quiet_on) | (go_big_quiet_op; go_big_quiet_on) | (go_big_quiet_op; refine ⟨_, fun _ _ => rfl, ?_⟩; go_big_quiet_on))))
  refine wpQuiet_nil ?_
  intro w' HM'
  clear HM; have HM := HM'; clear HM'
  go_wp2_with fail
  go_ret
  exact ⟨rfl, Own.fin HM⟩
end Go.Proofs.YtljjgakfnajifaaGreatDoor
namespace Go.Proofs.YtljjgakfnajifaaGreatDoor.cpuNames
open Go.ChangeShapes Go.WideShapes Go.ChangeAt Go.RowKit
theorem own : ownKnob Tryz.prog.godebug = none := by kernel_rfl
theorem door_met (os : Os) (args : Array Value) : laidMetH Tryz.prog Rows.cpuNamesRow.laid ((World.doorLaid Tryz.prog 400 os).forCall (fun _ _ => 0) ⟨#[], args, []⟩).memory :=
  laidMetH_of_parts3 (fuel := 8) (laidMet_of_run' 8 (by kernel_rfl) (by kernel_rfl)) (by kernel_rfl) (by kernel_rfl)
theorem laidOut : laidOutB Tryz.prog = true := by kernel_rfl
set_option maxRecDepth 100000 in
set_option maxHeartbeats 6400000 in
theorem lifted (os : Os) (started : os.Started) (H : Type) (enc : TypeId × Value → H) :
    ReturnsInHanded {} Tryz.checked os 3 .any (fun w args => (Rows.cpuNamesSpec.pre enc Tryz.prog Tryz.f3 [] false w args ∧ laidMetH Tryz.prog Rows.cpuNamesRow.laid w) ∧ sizedMet enc Tryz.prog Tryz.f3 (OpenSpec.ofChange Rows.cpuNamesSpec) false w args) (Rows.cpuNamesSpec.post enc Tryz.prog Tryz.f3 false true false false) := by
  refine returnsInHanded_of_change_and (C := Tryz.checked) (X := fun w _ => laidMetH Tryz.prog Rows.cpuNamesRow.laid w) (fun _ _ _ hh h => h.of_heap hh) own started (by kernel_rfl) Tryz.func3
    (ChangeSpec.witness_shaped (enc := enc) (C := Tryz.checked) (os := os) (X := fun w _ => laidMetH Tryz.prog Rows.cpuNamesRow.laid w) false (World.doorLaid Tryz.prog 400 os) #[] 8 rfl (World.shaped_of_RefB (by kernel_rfl) (by kernel_rfl)) (by kernel_rfl) (by kernel_rfl) (by kernel_rfl) (door_met os _)) ?_
  intro W base args ds gs before hval0 hW _ _ hL _
  have hT := tabs_of hL
  have hval : ∀ (j : Nat) t v, Tryz.f3.params[j]? = some t → args[j]? = some v → Value.okWide Tryz.prog W .any base t v := hval0
  have hW' := hW
  obtain ⟨p, q, hA0, hV, rfl, hfz, hnd⟩ := hW
  have hA : DataW.TrodAll enc Tryz.prog W 0 (fun _ => true) true Tryz.f3.params.toList args.toList ds p := hA0
  rw [Tryz.params3] at hA hval
  obtain ⟨rfl, rfl, rfl⟩ := trodAll_none hA
  obtain ⟨rfl, rfl⟩ := trodVars_none hV
  clear hA0 hval0
  refine ((nm_any W hT)).mono fun e W' ⟨he, bel⟩ => ?_
  subst he
  exact ⟨_, rfl, _, _, _, [], _, [], hW', trodAll_mk1 (shut_bool Tryz.underlying4 _), trodAll_mk0, rfl, bel.frame _, fun h => by cases h⟩
theorem over : Rows.cpuNamesRow.holds Tryz.pinned (OpenSpec.ofChange Rows.cpuNamesSpec) :=
  OpenClaim.holds_of_wide 3 Tryz.f3 rfl rfl rfl rfl rfl rfl rfl ⟨rfl, rfl, rfl, rfl, rfl⟩ rfl rfl rfl rfl rfl (by kernel_rfl) Tryz.func3 (by kernel_rfl)
    (of_decide_eq_true (by kernel_rfl)) (by unfold Func.isWrapper; first | (rw [if_pos (by decide +kernel)]; kernel_rfl) | (rw [if_neg (by decide +kernel)]; exact ⟨rfl, rfl⟩))
    (fun os started H enc _ => lifted os started H enc)
theorem proved : Rows.CpuNamesCardSaid :=
  Claim7.holds_tied_plain_at .later [] [.data, .data] true _ false
    over (fun _ h => by cases h) (by kernel_rfl) (fun _ h => by cases h) cpuNames_row_tie rfl ⟨rfl, rfl⟩ (by kernel_rfl) rfl
    (fun f fn hf hfn => by
      obtain rfl : f = 3 := Option.some.inj ((show Tryz.prog.funcNamed "joystick/joysticklaw12.CpuNames" = some 3 by kernel_rfl).symm.trans hf) |>.symm
      obtain rfl : fn = Tryz.f3 := (Option.some.inj (Tryz.func3.symm.trans hfn)).symm
      exact ⟨by kernel_rfl, fun j t ht => by
        rw [Tryz.params3] at ht
        simp at ht⟩)
    (by kernel_rfl)
end Go.Proofs.YtljjgakfnajifaaGreatDoor.cpuNames
