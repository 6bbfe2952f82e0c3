import Derived.Test.YtljjgakfnajifaaGreatDoorZCpuStep
import Derived.Test.YtljjgakfnajifaaGreatDoorZCpuInt
import Derived.Test.YtljjgakfnajifaaGreatDoorZBase
import Derived.Test.YtljjgakfnajifaaGreatDoorZCpuGoA
import Derived.Test.YtljjgakfnajifaaGreatDoorZCpuNo
import Derived.Laws.ResultCell
import Derived.Deep.Cut
import Derived.Deep.RegionHeld3
import Derived.Deep.CutRange
import Derived.LaidMore
import Derived.Lib.LaidTab
import Derived.MakeChecks
import Derived.ProofKit
import Derived.OpenShut
import Derived.ChangeOld
import Derived.ChangeArms
import Derived.Lib.SmallJoins
import Derived.Stop.Joined
namespace Go.Proofs.YtljjgakfnajifaaGreatDoor
open Go.RowKit
theorem aggCore : Agg Tryz.prog 65 31 := ⟨⟨_, Tryz.underlying65, rfl⟩, by kernel_rfl⟩
def core0 : List Value := rg0.cells ++ [Value.nilIface, .int .u8 0]
theorem zeroCore : Zero Tryz.prog 65 core0 := ⟨.agg core0.toArray, fun _ => by kernel_rfl, rfl⟩
theorem core0_length : core0.length = 31 := rfl
theorem Cs.one1 (s : Cs) (b : Nat) : (s.cells b).all (·.oneCell') = true := rfl
theorem own_results2 {P : Program} {W0 w : World} {l : Blocks} {fn : Func} {p q : Tmp} {ty t : TypeId} {g n : Nat} {cs : List Value} {v : Value} (HM : Hid (Own W0 w l)) (h : fn.results = #[.cell p ty, .tmp q]) (tmps : Array Value) (hp : tmps.getD p undef = .pointer (some ⟨g, 0, none⟩)) (hq : tmps.getD q undef = v) (hs : Sel l g t cs)
    (hty : Agg P ty n) (hn : cs.length = n) : (results fn tmps).run P w = .ok (.tuple #[.agg cs.toArray, v]) w := by
  obtain ⟨⟨d, hu, hr⟩, hsz⟩ := hty
  have hrun := run_loadVar_row (P := P) w g t ty cs.toArray (0, 0) d (HM.out.at_ hs) hu (by cases d <;> first | rfl | cases hr) (by simpa [hn] using hsz)
  rw [results_cell_tmp h, hp, hq]
  simp [asAddr, Result.andThen, hrun]
theorem Own.rest {W0 w : World} {e : Nat × TypeId × List Value} {l : Blocks} (h : Own W0 w (e :: l)) : Own W0 w l := h.tail (l1 := [e])
theorem own_move {P : Program} {w : World} {ops : Array Oper} {rest : List Oper} {o : Oper} {a : Act} {Q : Exit → Act → World → Prop} {x : Operand} {v : Value} (ho : o.op = .move x) (hx : a.eval x = v) (hw : Region.wanted o (yielded ops a.tmps) = true)
    (h : wpList P ops Q rest (a.put o.dst v) w) : wpList P ops Q (o :: rest) a w := by
  refine wpList_wanted hw fun K hK => ?_
  unfold Oper.wp execOp
  simp only [ho, hx]
  exact hK _ _ h
theorem own_built {P : Program} {w : World} {ops : Array Oper} {rest : List Oper} {o : Oper} {a : Act} {Q : Exit → Act → World → Prop} {t : TypeId} {parts : Array (Nat × Operand)} {v : Value} {parts' : Array (Nat × Value)} (hx : ∀ w, (Instr.build t parts').run P w = .ok v w)
    (ho : o.op = .build t parts) (hp : (parts.map fun (i, x) => (i, a.eval x)) = parts') (hw : Region.wanted o (yielded ops a.tmps) = true) (h : wpList P ops Q rest (a.put o.dst v) w) : wpList P ops Q (o :: rest) a w := by
  refine wpList_wanted hw fun K hK => ?_
  unfold Oper.wp execOp
  simp only [ho, Sem.run_bind, hp]
  rw [hx]
  exact hK _ _ h
theorem own_built1 {P : Program} {w : World} {ops : Array Oper} {rest : List Oper} {o : Oper} {a : Act} {Q : Exit → Act → World → Prop} {t : TypeId} {i : Nat} {x : Operand} {vx v : Value} (hx : ∀ w, (Instr.build t #[(i, vx)]).run P w = .ok v w)
    (ho : o.op = .build t #[(i, x)]) (h1 : a.eval x = vx) (hw : Region.wanted o (yielded ops a.tmps) = true) (h : wpList P ops Q rest (a.put o.dst v) w) : wpList P ops Q (o :: rest) a w :=
  own_built hx ho (by simp [h1]) hw h
theorem own_built2 {P : Program} {w : World} {ops : Array Oper} {rest : List Oper} {o : Oper} {a : Act} {Q : Exit → Act → World → Prop} {t : TypeId} {i j : Nat} {x y : Operand} {vx vy v : Value} (hx : ∀ w, (Instr.build t #[(i, vx), (j, vy)]).run P w = .ok v w)
    (ho : o.op = .build t #[(i, x), (j, y)]) (h1 : a.eval x = vx) (h2 : a.eval y = vy) (hw : Region.wanted o (yielded ops a.tmps) = true) (h : wpList P ops Q rest (a.put o.dst v) w) : wpList P ops Q (o :: rest) a w :=
  own_built hx ho (by simp [h1, h2]) hw h
theorem build_core (r : Rg) (b : Nat) (u : U) (w : World) : (Instr.build 65 #[(0, r.v), (1, .iface 28 (.pointer (some ⟨b, 0, none⟩)))]).run Tryz.prog w = .ok (.agg ((Cs.mk r 0 u).cells b).toArray) w := by
  obtain ⟨a, f, b', c, d, e, h, l, x0, x1, x2, x3, x4, x5, x6, x7, ix, iy, sp, pc, wz, i, r, im, px, q1, q2, ht, dl⟩ := r
  kernel_rfl
set_option maxRecDepth 100000 in
set_option maxHeartbeats 800000 in
theorem awake_at (r : Rg) (b : Nat) (u : U) (w : World) :
    Calls Tryz.prog 24 #[r.v, .iface 28 (.pointer (some ⟨b, 0, none⟩))] w fun e w' => e = .returned (.agg ((Cs.mk r 0 u).cells b).toArray) ∧ Below w.heap.size w w' := by
  have hb : ∀ w, (Instr.build 65 #[(0, r.v), (1, .iface 28 (.pointer (some ⟨b, 0, none⟩)))]).run Tryz.prog w = .ok (.agg ((Cs.mk r 0 u).cells b).toArray) w := build_core r b u
  have HM := Lib.hid (Own.start w)
  have tg1 : Hid True := trivial
  have tg2 : Hid True := trivial
  go_enter Tryz.func24, Tryz.ntmps24
  go_upto_region 3 with (first
    | ((with_reducible apply own_box HM); exact rfl; (conv => lhs; whnf); exact rfl; exact rfl; (first | (clear tg1 HM; intro w' g1 HM) | (clear tg2 HM; intro w' g2 HM) | (clear tg3 HM; intro w' g3 HM) | (clear tg4 HM; intro w' g4 HM) | (clear HM; intro w' g' HM))) | ((with_reducible apply own_row HM); exact rfl; exact rfl; exact aggR; exact sS; exact rfl; exact lS) | ((with_reducible apply own_alloc HM); exact rfl; (with_reducible exact zeroCore); exact rfl; (first | (clear tg1; intro w' g1 HM') | (clear tg2; intro w' g2 HM') | (clear tg3; intro w' g3 HM') | intro w' g' HM'); clear HM; have HM := HM'; clear HM'))
  refine wp_region_lit ?_
  ((with_reducible apply own_row HM); exact rfl; exact rfl; exact aggR; exact sS; exact rfl; exact lS)
  (with_reducible apply own_move); exact rfl; exact rfl; exact rfl
  (with_reducible apply own_built2 hb); exact rfl; exact rfl; exact rfl; exact rfl
  ((with_reducible apply own_lay HM); exact rfl; exact rfl; exact rfl; (first | with_reducible exact .z | with_reducible exact .s .z | with_reducible exact .s (.s .z)); (first | with_reducible exact .z | with_reducible exact .s .z | with_reducible exact .s (.s .z)); exact aggCore.size; (first | exact Cs.cells_length _ _ | exact rfl); (first | exact core0_length | exact Cs.cells_length _ _ | exact rfl); exact Cs.one1 _ _; exact rfl; exact rfl; clear HM; intro w' HM)
  go_wp2_with fail
  refine bodyPost_ret (v := .agg ((Cs.mk r 0 u).cells b).toArray) (own_results HM Tryz.results24 _ rfl (by first | exact .z | exact .s .z) aggCore) rfl ⟨rfl, Own.fin HM⟩
theorem step_as {W0 w : World} {c b n k : Nat} {s s' : Cs} {l : Blocks} (hT : Hid (Tabs W0)) (hs : Hid (s.step = s')) (hk : Hid (s.stepC = k)) (h : Hid (Co W0 w c b s l (n + 6))) :
    Calls Tryz.prog 25 #[.pointer (some ⟨c, 0, none⟩)] w fun e w' => e = .returned (.int .i64 (k : Int)) ∧ Hid (Co W0 w' c b s' l n) := by
  rw [← hs.out, ← hk.out]
  exact step_at hT h
theorem interrupt_as {W0 w : World} {c b n k : Nat} {s s' : Cs} {l : Blocks} (pause line : Bool) (hs : Hid (s.inter pause line = s')) (hk : Hid (s.interC pause line = k)) (h : Hid (Co W0 w c b s l (n + 4))) :
    Calls Tryz.prog 26 #[.pointer (some ⟨c, 0, none⟩), .bool pause, .bool line] w fun e w' => e = .returned (.int .i64 (k : Int)) ∧ Hid (Co W0 w' c b s' l n) := by
  rw [← hs.out, ← hk.out]
  exact interrupt_at pause line h
set_option maxRecDepth 100000 in
set_option maxHeartbeats 800000 in
theorem step_any {W0 w : World} {b n : Nat} {l : Blocks} (hT : Hid (Tabs W0)) (r : Rg) (u : U) (hr : r.Fits) (h : Hid (Bx W0 w b u l (n + 6))) :
    Calls Tryz.prog 13 #[r.v, .iface 28 (.pointer (some ⟨b, 0, none⟩))] w fun e w' => e = .returned (.tuple #[(Cs.step ⟨r, 0, u⟩).r.v, .int .i64 (((Cs.stepC ⟨r, 0, u⟩) : Nat) : Int)]) ∧ (Cs.step ⟨r, 0, u⟩).r.Fits ∧ Hid (Bx W0 w' b (Cs.step ⟨r, 0, u⟩).u l n) := by
  obtain ⟨hg, X, hX, hO⟩ := h.out
  have HG := Lib.hid hg
  have HX := Lib.hid hX
  have HM := Lib.hid hO
  have HR := Lib.hid hr
  have HF : Hid (Cs.mk r 0 u).Fits := Lib.hid ⟨hr, by show 0 < 256; decide, hg.m8⟩
  clear h hg hX hO hr
  obtain ⟨s', hs'⟩ : ∃ x, Hid (Cs.step ⟨r, 0, u⟩ = x) := ⟨_, rfl⟩
  obtain ⟨k', hk'⟩ : ∃ x, Hid (Cs.stepC ⟨r, 0, u⟩ = x) := ⟨_, rfl⟩
  rw [hs'.out, hk'.out]
  have tg1 : Hid True := trivial
  have tg2 : Hid True := trivial
  have tg3 : Hid True := trivial
  go_enter Tryz.func13, Tryz.ntmps13
  go_upto_region 2 with (first
    | ((with_reducible apply own_box HM); exact rfl; (conv => lhs; whnf); exact rfl; exact rfl; (first | (clear tg1 HM; intro w' g1 HM) | (clear tg2 HM; intro w' g2 HM) | (clear tg3 HM; intro w' g3 HM) | (clear tg4 HM; intro w' g4 HM) | (clear HM; intro w' g' HM))) | ((with_reducible apply own_row HM); exact rfl; exact rfl; exact aggR; exact sS; exact rfl; exact lS)
    | ((with_reducible apply own_alloc HM); exact rfl; (first | (with_reducible exact zeroR) | (with_reducible exact zeroCore)); exact rfl; (first | (clear tg1; intro w' g1 HM') | (clear tg2; intro w' g2 HM') | (clear tg3; intro w' g3 HM') | intro w' g' HM'); clear HM; have HM := HM'; clear HM')
    | (go_at_call 24; (with_reducible refine (awake_at r b u _).mono ?_); rintro e w' ⟨rfl, hb⟩; replace HM := Lib.hid (HM.out.call hb); clear hb)
    | ((with_reducible apply own_lay HM); exact rfl; exact rfl; exact rfl; (first | with_reducible exact .z | with_reducible exact .s .z | with_reducible exact .s (.s .z)); (first | with_reducible exact .z | with_reducible exact .s .z | with_reducible exact .s (.s .z)); exact aggCore.size; (first | exact Cs.cells_length _ _ | exact rfl); (first | exact core0_length | exact Cs.cells_length _ _ | exact rfl); exact Cs.one1 _ _; exact rfl; exact rfl; clear HM; intro w' HM))
  go_upto_region 3 with (first
    | (go_at_call 25; have hco := Lib.hid (Co.made (s := ⟨r, 0, u⟩) (l := _ :: _ :: l) HM.out HG.out HX.out HF.out); (with_reducible refine (step_as hT hs' hk' hco).mono ?_); clear hco; rintro e w' ⟨rfl, hc⟩; clear HM HF HG HX; obtain ⟨X, HF, HG, HX, HM⟩ := hc.out.hid2; clear hc))
  go_wp2_with (first
    | ((with_reducible apply crY HM); exact crS)
    | ((with_reducible apply own_lay HM); exact rfl; exact rfl; exact rfl; (with_reducible exact .s .z); (with_reducible exact .s .z); exact aggR.size; exact Rg.cells_length _; exact lS; exact Rg.one1 _; exact rfl; exact rfl; clear HM; intro w' HM))
  refine bodyPost_ret (v := .tuple #[s'.r.v, .int .i64 (k' : Int)]) (own_results2 HM Tryz.results13 _ rfl rfl (.s .z) aggR (Rg.cells_length _)) rfl ⟨rfl, HF.out.r, Lib.hid ⟨HG.out, _, HX.out, HM.out.rest.rest.rest⟩⟩
set_option maxRecDepth 100000 in
set_option maxHeartbeats 800000 in
theorem inter_any {W0 w : World} {b n : Nat} {l : Blocks} (r : Rg) (u : U) (pause line : Bool) (hr : r.Fits) (h : Hid (Bx W0 w b u l (n + 4))) :
    Calls Tryz.prog 15 #[r.v, .iface 28 (.pointer (some ⟨b, 0, none⟩)), .bool pause, .bool line] w fun e w' => e = .returned (.tuple #[(Cs.inter ⟨r, 0, u⟩ pause line).r.v, .int .i64 (((Cs.interC ⟨r, 0, u⟩ pause line) : Nat) : Int)]) ∧ (Cs.inter ⟨r, 0, u⟩ pause line).r.Fits ∧ Hid (Bx W0 w' b (Cs.inter ⟨r, 0, u⟩ pause line).u l n) := by
  obtain ⟨hg, X, hX, hO⟩ := h.out
  have HG := Lib.hid hg
  have HX := Lib.hid hX
  have HM := Lib.hid hO
  have HR := Lib.hid hr
  have HF : Hid (Cs.mk r 0 u).Fits := Lib.hid ⟨hr, by show 0 < 256; decide, hg.m8⟩
  clear h hg hX hO hr
  obtain ⟨s', hs'⟩ : ∃ x, Hid (Cs.inter ⟨r, 0, u⟩ pause line = x) := ⟨_, rfl⟩
  obtain ⟨k', hk'⟩ : ∃ x, Hid (Cs.interC ⟨r, 0, u⟩ pause line = x) := ⟨_, rfl⟩
  rw [hs'.out, hk'.out]
  have tg1 : Hid True := trivial
  have tg2 : Hid True := trivial
  have tg3 : Hid True := trivial
  go_enter Tryz.func15, Tryz.ntmps15
  go_upto_region 2 with (first
    | ((with_reducible apply own_box HM); exact rfl; (conv => lhs; whnf); exact rfl; exact rfl; (first | (clear tg1 HM; intro w' g1 HM) | (clear tg2 HM; intro w' g2 HM) | (clear tg3 HM; intro w' g3 HM) | (clear tg4 HM; intro w' g4 HM) | (clear HM; intro w' g' HM))) | ((with_reducible apply own_row HM); exact rfl; exact rfl; exact aggR; exact sS; exact rfl; exact lS)
    | ((with_reducible apply own_alloc HM); exact rfl; (first | (with_reducible exact zeroR) | (with_reducible exact zeroCore)); exact rfl; (first | (clear tg1; intro w' g1 HM') | (clear tg2; intro w' g2 HM') | (clear tg3; intro w' g3 HM') | intro w' g' HM'); clear HM; have HM := HM'; clear HM')
    | (go_at_call 24; (with_reducible refine (awake_at r b u _).mono ?_); rintro e w' ⟨rfl, hb⟩; replace HM := Lib.hid (HM.out.call hb); clear hb)
    | ((with_reducible apply own_lay HM); exact rfl; exact rfl; exact rfl; (first | with_reducible exact .z | with_reducible exact .s .z | with_reducible exact .s (.s .z)); (first | with_reducible exact .z | with_reducible exact .s .z | with_reducible exact .s (.s .z)); exact aggCore.size; (first | exact Cs.cells_length _ _ | exact rfl); (first | exact core0_length | exact Cs.cells_length _ _ | exact rfl); exact Cs.one1 _ _; exact rfl; exact rfl; clear HM; intro w' HM))
  go_upto_region 3 with (first
    | (go_at_call 26; have hco := Lib.hid (Co.made (s := ⟨r, 0, u⟩) (l := _ :: _ :: l) HM.out HG.out HX.out HF.out); (with_reducible refine (interrupt_as pause line hs' hk' hco).mono ?_); clear hco; rintro e w' ⟨rfl, hc⟩; clear HM HF HG HX; obtain ⟨X, HF, HG, HX, HM⟩ := hc.out.hid2; clear hc))
  go_wp2_with (first
    | ((with_reducible apply crY HM); exact crS)
    | ((with_reducible apply own_lay HM); exact rfl; exact rfl; exact rfl; (with_reducible exact .s .z); (with_reducible exact .s .z); exact aggR.size; exact Rg.cells_length _; exact lS; exact Rg.one1 _; exact rfl; exact rfl; clear HM; intro w' HM))
  refine bodyPost_ret (v := .tuple #[s'.r.v, .int .i64 (k' : Int)]) (own_results2 HM Tryz.results15 _ rfl rfl (.s .z) aggR (Rg.cells_length _)) rfl ⟨rfl, HF.out.r, Lib.hid ⟨HG.out, _, HX.out, HM.out.rest.rest.rest⟩⟩
end Go.Proofs.YtljjgakfnajifaaGreatDoor
namespace Go.Proofs.YtljjgakfnajifaaGreatDoor
open Go.RowKit
theorem own_makes {P : Program} {W0 w : World} {l : Blocks} {ops : Array Oper} {rest : List Oper} {o : Oper} {a : Act} {Q : Exit → Act → World → Prop} {e : TypeId} {n : Nat} {cs : List Value} {vx vy : Value} (HM : Hid (Own W0 w l))
    {t : TypeId} {x y : Operand} (ho : o.op = .makeSlice t x y) (h1 : a.eval x = vx) (h2 : a.eval y = vy) (hx : ∀ w, (Instr.makeSlice t vx vy).run P w = .ok (.slice (some ⟨w.heap.size, 0, none⟩) n n) (w.alloc (.cells cs.toArray e))) (hw : Region.wanted o (yielded ops a.tmps) = true)
    (h : ∀ w' g, Hid (Own W0 w' ((g, e, cs) :: l)) → wpList P ops Q rest (a.put o.dst (.slice (some ⟨g, 0, none⟩) n n)) w') : wpList P ops Q (o :: rest) a w := by
  refine wpList_wanted hw fun K hK => ?_
  unfold Oper.wp execOp
  simp only [ho, Sem.run_bind, h1, h2]
  rw [hx]
  exact hK _ _ (h _ _ (HM.out.new e cs))
set_option maxRecDepth 100000 in
theorem made_some (n : Nat) (h : n ≤ 2147483647) (w : World) : (Instr.makeSlice 30 (.int .i64 (n : Int)) (.int .i64 (n : Int))).run Tryz.prog w = .ok (.slice (some ⟨w.heap.size, 0, none⟩) n n) (w.alloc (.cells (List.replicate n (Value.int .u8 0)).toArray 5)) := by
  have hi : (Tryz.prog.info? 5).map (fun i => (i.zero, i.size, i.bytes)) = some (some (.int .u8 0), 1, 1) := by kernel_rfl
  obtain ⟨i0, hi, hz0, hz1, hz2⟩ : ∃ i : TypeInfo, Tryz.prog.info? 5 = some i ∧ i.zero = some (.int .u8 0) ∧ i.size = 1 ∧ i.bytes = 1 := by
    cases hq : Tryz.prog.info? 5 with
    | none => rw [hq] at hi; simp at hi
    | some i => rw [hq] at hi; simp at hi; exact ⟨i, rfl, hi.1, hi.2.1, hi.2.2⟩
  have hr := run_make (P := Tryz.prog) w 30 5 i0 (.int .u8 0) Tryz.underlying30 hi hz0 .i64 .i64 (n : Int) (n : Int) (by omega) (by omega) (by rw [hz2]; omega) (by omega)
  rw [hr]
  rw [Int.toNat_natCast, hz1, Nat.mul_one]
  congr 3
  apply Array.ext'
  rw [show (Value.int IntKind.u8 0).cells = #[Value.int IntKind.u8 0] from rfl, toList_madeCells_one]
theorem mem0 : mcells (fun _ => 0) = List.replicate 65536 (Value.int .u8 0) := by
  apply List.ext_getElem?
  intro i
  by_cases h : i < 65536
  · rw [mcells_get _ i h, List.getElem?_replicate, if_pos h]; rfl
  · rw [List.getElem?_replicate, if_neg h, List.getElem?_eq_none (by rw [mcells_length]; omega)]
theorem made_mem (w : World) : (Instr.makeSlice 30 (.int .i64 65536) (.int .i64 65536)).run Tryz.prog w = .ok (.slice (some ⟨w.heap.size, 0, none⟩) 65536 65536) (w.alloc (.cells (mcells fun _ => 0).toArray 5)) := by
  rw [mem0]
  exact made_some 65536 (by omega) w
def part (f k i : Nat) : Nat := if i < k then bas f i else 0
theorem part_zero (f : Nat) : part f 0 = fun _ => 0 := by funext i; exact if_neg (by omega)
theorem part_step (f k : Nat) : upd (part f k) k (bas f k) = part f (k + 1) := by
  funext i
  unfold upd part
  by_cases h : i = k
  · rw [if_pos h, if_pos (by omega), h]
  · rw [if_neg h]
    by_cases h2 : i < k
    · rw [if_pos h2, if_pos (by omega)]
    · rw [if_neg h2, if_neg (by omega)]
theorem mcells_congr {m m' : Nat → Nat} (h : ∀ i, i < 65536 → m i = m' i) : mcells m = mcells m' := by
  unfold mcells
  apply List.map_congr_left
  intro i hi
  rw [h i (List.mem_range.1 hi)]
theorem mcells_full (f : Nat) : mcells (part f 65536) = mcells (bas f) := mcells_congr fun _ hi => if_pos hi
def Reads (W0 : World) (l : Blocks) (a : Option Addr) (ys : List Nat) : Prop :=
  (∀ y ∈ ys, y < 256) ∧ (0 < ys.length → ∃ g o, a = some ⟨g, o, none⟩ ∧ ∀ w, Own W0 w l → ∀ (i y : Nat), ys[i]? = some y → w.cell? ⟨g, o + i, none⟩ = some (.int .u8 (y : Int)))
theorem take_next {ys : List Nat} {k : Nat} (hk : k < ys.length) : ys.take (k + 1) = ys.take k ++ [ys[k]] := by
  rw [List.take_add_one, List.getElem?_eq_getElem hk]; rfl
theorem Bx.new {W0 w : World} {b gm : Nat} {m : Nat → Nat} {l : Blocks} (h8 : ∀ i, m i < 256) (h : Own W0 w ((b, 40, [.slice (some ⟨gm, 0, none⟩) 65536 65536, .slice none 0 0]) :: (gm, 5, mcells m) :: l)) : Bx W0 w b ⟨m, []⟩ l 1000000 :=
  ⟨⟨h8, by show 0 + 1000000 ≤ 1000000; decide⟩, _, ⟨gm, .slice none 0 0, [], rfl, RowOf.nil _ _⟩, h.perm (List.perm_append_comm (l₁ := [_, _]))⟩
theorem build_box (v : Value) (hv : ∃ g N, v = .slice (some ⟨g, 0, none⟩) N N) (w : World) : (Instr.build 40 #[(0, v)]).run Tryz.prog w = .ok (.agg #[v, .slice none 0 0]) w := by
  obtain ⟨g, N, rfl⟩ := hv
  kernel_rfl
set_option maxRecDepth 100000 in
set_option maxHeartbeats 400000 in
theorem box_at {W0 w : World} {l : Blocks} (at_ f cap : Nat) (ys : List Nat) (a : Option Addr) (ha : at_ < 65536) (hl : ys.length ≤ 65536) (hR : Hid (Reads W0 l a ys)) (h : Hid (Own W0 w l)) :
    Calls Tryz.prog 14 #[.int .u16 (at_ : Int), .slice a ys.length cap, .int .u8 (f : Int)] w fun e w' => ∃ b, e = .returned (.pointer (some ⟨b, 0, none⟩)) ∧ Hid (Bx W0 w' b ⟨lay (bas f) at_ ys, []⟩ l 1000000) := by
  obtain ⟨N, hN⟩ : ∃ N : Nat, Hid (N = 65536) := ⟨_, rfl⟩
  have hmk : Hid (∀ w, (Instr.makeSlice 30 (.int .i64 65536) (.int .i64 65536)).run Tryz.prog w = .ok (.slice (some ⟨w.heap.size, 0, none⟩) N N) (w.alloc (.cells (mcells fun _ => 0).toArray 5))) := Lib.hid (by rw [hN.out]; exact made_mem)
  have hbx : Hid (∀ gm w, (Instr.build 40 #[(0, .slice (some ⟨gm, 0, none⟩) N N)]).run Tryz.prog w = .ok (.agg #[.slice (some ⟨gm, 0, none⟩) N N, .slice none 0 0]) w) := Lib.hid (fun gm w => build_box _ ⟨gm, N, rfl⟩ w)
  have hm8 := Lib.hid (lay_lt (bas f) at_ ys (bas_lt f) hR.out.1)
  have HA := Lib.hid ha
  have HL := Lib.hid hl
  obtain ⟨n, hn⟩ : ∃ n, Hid (ys.length = n) := ⟨_, rfl⟩
  have HM := h
  rw [hn.out]
  clear h hl ha
  go_enter Tryz.func14, Tryz.ntmps14
  go_upto_region 2 with (first
    | ((with_reducible apply own_makes (cs := mcells fun _ => 0) (e := 5) (n := N) HM); exact rfl; exact rfl; exact rfl; exact hmk.out; exact rfl; intro w' gm HM'; clear HM; have HM := HM'; clear HM'; have hb := hbx.out gm)
    | ((with_reducible apply own_box HM); exact rfl; (conv => lhs; whnf); exact rfl; exact rfl; intro w' b HM'; clear HM; have HM := HM'; clear HM'))
  clear hb
  go_upto_region 3 with (first | ((with_reducible apply own_box HM); exact rfl; (conv => lhs; whnf); exact rfl; exact rfl; (first | (clear tg1 HM; intro w' g1 HM) | (clear tg2 HM; intro w' g2 HM) | (clear tg3 HM; intro w' g3 HM) | (clear tg4 HM; intro w' g4 HM) | (clear HM; intro w' g' HM))) | ((with_reducible apply own_cell HM); exact rfl; exact rfl; (first | (with_reducible exact oneU8s)); exact sS; exact dS; exact rfl) | ((with_reducible apply own_store HM); exact rfl; exact rfl; (conv => lhs; whnf); exact rfl; exact sS; exact vS; exact sS; (first | (with_reducible exact (oneU8s).size)); exact rfl; exact rfl; exact rfl; exact rfl; clear HM; intro w' HM))
  go_loopw [19] (fun i wr => ∃ k : Nat, k ≤ N ∧ i = .int .i64 (k : Int) ∧ Hid (Own W0 wr ((b, 40, [.slice (some ⟨gm, 0, none⟩) N N, .slice none 0 0]) :: (gm, 5, mcells (part f k)) :: l))) (fun i _ => N - (intOf i).toNat)
  case atStart => exact ⟨0, by omega, rfl, by rw [part_zero]; exact HM⟩
  case round =>
    obtain ⟨k, hk, rfl, HM⟩ := hrel
    by_cases hlt : k < N
    · obtain ⟨p, hp⟩ : ∃ p : Nat, k % 256 = p := ⟨_, rfl⟩
      obtain ⟨d, hd⟩ : ∃ d : Nat, k / 256 = d := ⟨_, rfl⟩
      obtain ⟨q, hq⟩ : ∃ q : Nat, p * f % 256 = q := ⟨_, rfl⟩
      have hN' := hN.out
      have k1 : k < 65536 := by omega
      have HK := Lib.hid k1
      have e0 : (k : Int) % 256 = (p : Int) := by omega
      have e1 : IntKind.u8.wrap ((p : Int) * (f : Int)) = (q : Int) := by show ((p : Int) * (f : Int)) % 256 = _; rw [← Int.natCast_mul]; omega
      have e2 : (k : Int) / 256 = (d : Int) := by omega
      have e3 : (d : Int) < 256 := by omega
      have hlt2 : (k : Int) < (N : Int) := by omega
      have ex : bits .xor .u8 (q : Int) (d : Int) = ((bas f k : Nat) : Int) := by
        rw [u8_xor _ _ (by omega) (by omega) (by omega) (by omega), Int.toNat_natCast, Int.toNat_natCast]
        unfold bas
        rw [hp, hq, hd, Nat.mod_eq_of_lt (show d < 256 by omega)]
        rfl
      have hk1 : (k : Int) < 65536 := by omega
      clear hp hd hq hN' k1 hk
      obtain ⟨B, hB⟩ : ∃ B, Hid (bas f k = B) := ⟨_, rfl⟩
      rw [hB.out] at ex
      go_wp2_with (first
        | ((with_reducible apply own_box HM); exact rfl; (conv => lhs; whnf); exact rfl; exact rfl; (first | (clear tg1 HM; intro w' g1 HM) | (clear tg2 HM; intro w' g2 HM) | (clear tg3 HM; intro w' g3 HM) | (clear tg4 HM; intro w' g4 HM) | (clear HM; intro w' g' HM))) | ((with_reducible apply own_cell HM); exact rfl; exact rfl; (first | (with_reducible exact oneU8s)); exact sS; exact dS; exact rfl) | ((with_reducible apply own_store HM); exact rfl; exact rfl; (conv => lhs; whnf); exact rfl; exact sS; exact vS; exact sS; (first | (with_reducible exact (oneU8s).size)); exact rfl; exact rfl; exact rfl; exact rfl; clear HM; intro w' HM)
        | ((with_reducible apply own_put HM (v := .int .u8 (B : Int)) (cs := mcells (part f k))); exact rfl; exact rfl; exact rfl; exact .s .z; exact .s .z; exact oneU8.size; exact rfl; exact rfl; (rw [mcells_length]; exact HK.out); exact rfl; clear HM; intro w' HM))
      go_roundw
      case rel => exact ⟨k + 1, by omega, by go_num, by have h := HM.out; rw [mcells_set, ← hB.out, part_step] at h; exact Lib.hid h⟩
      case measure => simp [intOf]; omega
    · obtain rfl : k = N := by omega
      have HM' : Hid (Own W0 wr ((b, 40, [.slice (some ⟨gm, 0, none⟩) k k, .slice none 0 0]) :: (gm, 5, mcells (lay (bas f) at_ (ys.take 0))) :: l)) := by
        have h := HM.out
        rw [show mcells (part f k) = mcells (bas f) by rw [hN.out]; exact mcells_full f] at h
        exact Lib.hid h
      clear HM; have HM := HM'; clear HM'
      clear hk hlt
      go_wp2_with fail
      go_loopw [39] (fun i wr => ∃ j : Nat, j ≤ n ∧ i = .int .i64 (j : Int) ∧ Hid (Own W0 wr ((b, 40, [.slice (some ⟨gm, 0, none⟩) k k, .slice none 0 0]) :: (gm, 5, mcells (lay (bas f) at_ (ys.take j))) :: l))) (fun i _ => n - (intOf i).toNat)
      case atStart => exact ⟨0, by omega, rfl, HM⟩
      case round =>
        obtain ⟨j, hj, rfl, HM⟩ := hrel
        have hn' := hn.out
        by_cases hlt : j < n
        · obtain ⟨y, hy⟩ : ∃ y, ys[j]? = some y := ⟨_, List.getElem?_eq_getElem (by omega)⟩
          obtain ⟨g, o, rfl, hc⟩ := hR.out.2 (by omega)
          have y1 : y < 256 := hR.out.1 y (List.mem_of_getElem? hy)
          have hcj := hc wr HM.out.rest.rest j y hy
          obtain ⟨q, hq⟩ : ∃ q, Hid ((at_ + j) % 65536 = q) := ⟨_, rfl⟩
          have q1 : q < 65536 := by rw [← hq.out]; exact Nat.mod_lt _ (by decide)
          have HQ := Lib.hid q1
          have hk' := hN.out
          have hL' := HL.out
          have j1 : (j : Int) < 65536 := by omega
          have hlt2 : (j : Int) < (n : Int) := by omega
          have e1 : IntKind.u16.wrap ((at_ : Int) + (j : Int)) = (q : Int) := by rw [← hq.out]; show ((at_ : Int) + (j : Int)) % 65536 = _; omega
          have qk : (q : Int) < (k : Int) := by omega
          have HY := Lib.hid hy
          have hl' : (lay (bas f) at_ (ys.take (j + 1))) = upd (lay (bas f) at_ (ys.take j)) q y := by
            have e : ys.take (j + 1) = ys.take j ++ [y] := by rw [List.take_add_one, hy]; rfl
            rw [e, lay_end _ _ _ _ HA.out, List.length_take, Nat.min_eq_left (by omega), hq.out]
          have HLY := Lib.hid hl'
          clear hn' hy q1 hk' hL' hl' hj hc
          go_wp2_with (first
            | ((with_reducible apply own_box HM); exact rfl; (conv => lhs; whnf); exact rfl; exact rfl; (first | (clear tg1 HM; intro w' g1 HM) | (clear tg2 HM; intro w' g2 HM) | (clear tg3 HM; intro w' g3 HM) | (clear tg4 HM; intro w' g4 HM) | (clear HM; intro w' g' HM))) | ((with_reducible apply own_cell HM); exact rfl; exact rfl; (first | (with_reducible exact oneU8s)); exact sS; exact dS; exact rfl) | ((with_reducible apply own_store HM); exact rfl; exact rfl; (conv => lhs; whnf); exact rfl; exact sS; exact vS; exact sS; (first | (with_reducible exact (oneU8s).size)); exact rfl; exact rfl; exact rfl; exact rfl; clear HM; intro w' HM)
            | ((with_reducible apply own_put HM (v := .int .u8 (y : Int)) (cs := mcells (lay (bas f) at_ (ys.take j)))); exact rfl; exact rfl; exact rfl; exact .s .z; exact .s .z; exact oneU8.size; exact rfl; exact rfl; (rw [mcells_length]; exact HQ.out); exact rfl; clear HM; intro w' HM))
          go_roundw
          case rel => exact ⟨j + 1, by omega, by go_num, by have h := HM.out; rw [mcells_set, ← HLY.out] at h; exact Lib.hid h⟩
          case measure => simp [intOf]; omega
        · obtain rfl : j = n := by omega
          have HM' : Hid (Own W0 wr ((b, 40, [.slice (some ⟨gm, 0, none⟩) k k, .slice none 0 0]) :: (gm, 5, mcells (lay (bas f) at_ ys)) :: l)) := by
            have h := HM.out
            rw [List.take_of_length_le (by omega)] at h
            exact Lib.hid h
          clear HM; have HM := HM'; clear HM' hn' hj hlt
          go_wp2_with fail
          go_ret
          have hk' := hN.out
          subst hk'
          exact ⟨b, rfl, Lib.hid (Bx.new hm8.out HM.out)⟩
end Go.Proofs.YtljjgakfnajifaaGreatDoor
namespace Go.Proofs.YtljjgakfnajifaaGreatDoor
open Go.RowKit
theorem reads_own {W0 : World} {l : Blocks} {g : Nat} {t : TypeId} (ys : List Nat) (h8 : ∀ y ∈ ys, y < 256) : Reads W0 ((g, t, ys.map fun y : Nat => .int .u8 (y : Int)) :: l) (some ⟨g, 0, none⟩) ys := by
  refine ⟨h8, fun _ => ⟨g, 0, rfl, fun w hw i y hy => ?_⟩⟩
  refine hw.cells_at .z _ _ ?_
  rw [Nat.zero_add, List.getElem?_map, hy]
  rfl
theorem box_alive {W0 w : World} {l : Blocks} {g : Nat} (h : Hid (Own W0 w ((g, 5, [.int .u8 62, .int .u8 5]) :: l))) :
    Calls Tryz.prog 14 #[.int .u16 100, .slice (some ⟨g, 0, none⟩) 2 2, .int .u8 0] w fun e w' => ∃ b, e = .returned (.pointer (some ⟨b, 0, none⟩)) ∧ Hid (Bx W0 w' b ⟨lay (bas 0) 100 [62, 5], []⟩ ((g, 5, [.int .u8 62, .int .u8 5]) :: l) 1000000) :=
  box_at 100 0 2 [62, 5] _ (by decide) (by decide) (Lib.hid (reads_own [62, 5] (by decide))) h
theorem box_alive_made (w : World) : (Instr.buildSlice 30 2 #[(0, .int .u8 62), (1, .int .u8 5)]).run Tryz.prog w = .ok (.slice (some ⟨w.heap.size, 0, none⟩) 2 2) (w.alloc (.cells ([.int .u8 62, .int .u8 5] : List Value).toArray 5)) := by kernel_rfl
def rgP : Rg := { rg0 with pc := 100 }
def rgQ : Rg := { rg0 with a := 5, pc := 102, r := 1 }
theorem rg0_fits : rg0.Fits := ⟨by decide, by decide, by decide, by decide, by decide, by decide, by decide, by decide, by decide, by decide, by decide, by decide, by decide, by decide, by decide, by decide, by decide, by decide, by decide, by decide, by decide, by decide, by decide, by decide, by decide⟩
theorem rgP_fits : rgP.Fits := { rg0_fits with pc := (by decide) }
theorem lay_two (f a x y : Nat) (ha : a + 1 < 65536) : lay (bas f) a [x, y] a = x ∧ lay (bas f) a [x, y] (a + 1) = y := by
  refine ⟨?_, ?_⟩
  · rw [lay_at _ _ _ _ (by omega) (by omega) (by simp), show (a + 65536 - a) % 65536 = 0 by omega]; rfl
  · rw [lay_at _ _ _ _ (by omega) (by omega) (by simp), show (a + 1 + 65536 - a) % 65536 = 1 by omega]; rfl
theorem do_ldA (s : Cs) : s.perform 62 = s.next.setOne 7 s.nextV ∧ s.performC 62 = 7 := ⟨rfl, rfl⟩
theorem alive_step (u : U) (h0 : u.m 100 = 62) (h1 : u.m 101 = 5) : stepR rgP u = rgQ ∧ stepN rgP u = 7 := by
  obtain ⟨s, hr, hu, -, e1, -, e3⟩ := step_begin rgP u 62 h0 rfl
  obtain ⟨d1, d2⟩ := do_ldA s
  have e4 : s.nextV = 5 := by
    show s.u.m s.r.pc = 5
    rw [hu, hr]; exact h1
  rw [d1, e4] at e1
  rw [d2] at e3
  refine ⟨?_, e3⟩
  rw [e1]
  show { s.r with pc := up1 s.r.pc, a := 5 } = rgQ
  rw [hr]
  rfl
theorem step_alive {W0 w : World} {b n : Nat} {l : Blocks} (hT : Hid (Tabs W0)) (h : Hid (Bx W0 w b ⟨lay (bas 0) 100 [62, 5], []⟩ l (n + 6))) :
    Calls Tryz.prog 13 #[rgP.v, .iface 28 (.pointer (some ⟨b, 0, none⟩))] w fun e w' => e = .returned (.tuple #[rgQ.v, .int .i64 7]) ∧ ∃ u, Hid (Bx W0 w' b u l n) := by
  obtain ⟨h0, h1⟩ := lay_two 0 100 62 5 (by decide)
  obtain ⟨e1, e2⟩ := alive_step ⟨lay (bas 0) 100 [62, 5], []⟩ h0 h1
  refine (step_any hT rgP _ rgP_fits h).mono fun e w' ⟨he, _, hb⟩ => ⟨?_, _, hb⟩
  rw [he]
  have e1' : (Cs.step ⟨rgP, 0, ⟨lay (bas 0) 100 [62, 5], []⟩⟩).r = rgQ := e1
  have e2' : Cs.stepC ⟨rgP, 0, ⟨lay (bas 0) 100 [62, 5], []⟩⟩ = 7 := e2
  rw [e1', e2']
  rfl
theorem build_P (w : World) : (Instr.build 25 #[(12, .int .u16 100)]).run Tryz.prog w = .ok rgP.v w := by kernel_rfl
theorem build_Q (w : World) : (Instr.build 25 #[(0, .int .u8 5), (12, .int .u16 102), (15, .int .u8 1)]).run Tryz.prog w = .ok rgQ.v w := by kernel_rfl
theorem same_Q (w : World) : (Op.equalIn 10000 25 (.agg (rgQ).cells.toArray) (.agg #[.int .u8 5, .int .u8 0, .int .u8 0, .int .u8 0, .int .u8 0, .int .u8 0, .int .u8 0, .int .u8 0, .int .u8 0, .int .u8 0, .int .u8 0, .int .u8 0, .int .u8 0, .int .u8 0, .int .u8 0, .int .u8 0, .int .u16 0, .int .u16 0, .int .u16 0, .int .u16 102, .int .u16 0, .int .u8 0, .int .u8 1, .int .u8 0, .int .u8 0, .bool false, .bool false, .bool false, .bool false])).run Tryz.prog w = .ok true w := Rg.same rgQ w
set_option maxRecDepth 100000 in
set_option maxHeartbeats 1600000 in
theorem cpuAlive_any (w : World) (hT : Tabs w) : Calls Tryz.prog 16 #[] w fun e w' => e = .returned (.bool true) ∧ Below w.heap.size w w' := by
  have HT := Lib.hid hT
  clear hT
  have ES := same_Q
  have HM := Lib.hid (Own.start w)
  have tg1 : Hid True := trivial
  have tg2 : Hid True := trivial
  go_enter Tryz.func16, Tryz.ntmps16
  go_upto_region 2 with (first
    | ((with_reducible apply own_made (cs := [.int .u8 62, .int .u8 5]) (e := 5) (n := 2) HM); exact rfl; exact box_alive_made; (focus (go_simp; done)); exact rfl; (first | (clear tg1; intro w' g1 HM') | (clear tg2; intro w' g2 HM') | (clear tg3; intro w' g3 HM') | (clear tg4; intro w' g4 HM')); clear HM; have HM := HM'; clear HM')
    | ((with_reducible apply own_built1 build_P); exact rfl; exact rfl; exact rfl)
    | (go_at_call 14; (with_reducible refine (box_alive HM).mono ?_); rintro e w' ⟨b, rfl, hB⟩; obtain ⟨hg, X, hX, hO⟩ := hB.out; simp only [List.cons_append, List.nil_append] at hO; have HG := Lib.hid hg; have HX := Lib.hid hX; have HM' := Lib.hid hO; clear hg hX hO hB HM; have HM := HM'; clear HM')
    | (go_at_call 13; have hbx : Hid (Bx _ _ b _ [_] _) := Lib.hid ⟨HG.out, X, HX.out, HM.out⟩; (with_reducible refine (step_alive HT hbx).mono ?_); clear hbx; rintro e w' ⟨rfl, u, hB⟩; obtain ⟨hg, X', hX, hO⟩ := hB.out; simp only [List.cons_append, List.nil_append] at hO; have HG' := Lib.hid hg; have HX' := Lib.hid hX; have HM' := Lib.hid hO; clear hg hX hO hB; clear HM HG HX; have HM := HM'; have HG := HG'; have HX := HX'; clear HM' HG' HX')
    | ((with_reducible apply own_alloc HM); exact rfl; (with_reducible exact zeroR); exact rfl; (first | (clear tg1 HM; intro w' g1 HM) | (clear tg2 HM; intro w' g2 HM) | (clear tg3 HM; intro w' g3 HM) | (clear tg4 HM; intro w' g4 HM) | (clear tg5 HM; intro w' g5 HM) | (clear tg6 HM; intro w' g6 HM))) | ((with_reducible apply own_lay HM); exact rfl; exact rfl; exact rfl; exact sS; exact sS; exact aggR.size; exact lS; exact lS; (first | exact Rg.one1 _ | exact rfl); exact rfl; exact rfl; clear HM; intro w' HM))
  (refine own_inorder HM ?_; (try simp only [Act.put, List.setIfInBounds_toArray, List.set_cons_zero, List.set_cons_succ]); repeat ((fail_if_success (with_reducible refine wpQuiet_nil ?_)); first | go_big_quiet_skip | (go_big_quiet_want; first | ((with_reducible apply quiet_row); exact rfl; exact aggR; exact sS; exact lS; go_big_quiet_op; go_big_quiet_on) | ((with_reducible apply quiet_get); exact rfl; exact bS3; exact sS; exact rfl; go_big_quiet_op; go_big_quiet_on) | ((with_reducible apply quiet_load); exact rfl; (with_reducible exact aggAlt); exact sS; exact Rg.altDrop _; exact Rg.altTake _; go_big_quiet_op; go_big_quiet_on) | (go_big_quiet_op; go_big_quiet_on) | (go_big_quiet_op; refine ⟨_, fun _ _ => rfl, ?_⟩; go_big_quiet_on))))
  refine wpQuiet_nil ?_
  intro w' HM'
  clear HM; have HM := HM'; clear HM'
  go_wp2_with fail
  go_ret
  exact ⟨rfl, Own.fin HM⟩
end Go.Proofs.YtljjgakfnajifaaGreatDoor
namespace Go.Proofs.YtljjgakfnajifaaGreatDoor
open Go.RowKit
theorem step_to {W0 w : World} {b n : Nat} {l : Blocks} (hT : Hid (Tabs W0)) {r r' : Rg} {u u' : U} {k' : Nat} (hr : Hid r.Fits) (h1 : Hid (stepR r u = r')) (h2 : Hid (stepN r u = k')) (h3 : Hid (stepU r u = u')) (h : Hid (Bx W0 w b u l (n + 6))) :
    Calls Tryz.prog 13 #[r.v, .iface 28 (.pointer (some ⟨b, 0, none⟩))] w fun e w' => e = .returned (.tuple #[r'.v, .int .i64 (k' : Int)]) ∧ Hid r'.Fits ∧ Hid (Bx W0 w' b u' l n) := by
  rw [← h1.out, ← h2.out, ← h3.out]
  exact (step_any hT r u hr.out h).mono fun _ _ ⟨he, hf, hb⟩ => ⟨he, Lib.hid hf, hb⟩
theorem Bx.hid2 {W0 w : World} {b n : Nat} {u : U} {e e' : Nat × TypeId × List Value} (h : Bx W0 w b u [e, e'] n) : ∃ _ : Hid (u.Good n), ∃ X, ∃ _ : Hid (IsBox X b u), Hid (Own W0 w (e :: e' :: X)) := by
  obtain ⟨hg, X, hX, hO⟩ := h
  exact ⟨hg, X, hX, hO⟩
theorem Bx.hid3 {W0 w : World} {b n : Nat} {u : U} {e e' e'' : Nat × TypeId × List Value} (h : Bx W0 w b u [e, e', e''] n) : ∃ _ : Hid (u.Good n), ∃ X, ∃ _ : Hid (IsBox X b u), Hid (Own W0 w (e :: e' :: e'' :: X)) := by
  obtain ⟨hg, X, hX, hO⟩ := h
  exact ⟨hg, X, hX, hO⟩
end Go.Proofs.YtljjgakfnajifaaGreatDoor
namespace Go.Proofs.YtljjgakfnajifaaGreatDoor
open Go.ChangeShapes Go.WideShapes Go.ChangeAt Go.RowKit Go.Joins
theorem laid_nth {P : Program} {w : World} : ∀ (L : List (String × DataW Unit)) (ps : List MemPlace), DataW.LaidVars P w L ps → ∀ (i : Nat) (n : String) (d : DataW Unit), L[i]? = some (n, d) →
    ∃ g t cs fuel p, P.globalNamed n = some g ∧ (P.globals[g]?).map (·.type) = some t ∧ w.var? P n = some cs ∧ DataW.trod (fun _ => ()) P w 0 (fun _ => true) false fuel t cs.toList = some (d, p)
  | [], _, _, i, n, d, h => by simp at h
  | (m, x) :: r, ps, hl, i, n, d, h => by
    obtain ⟨g, t, cs, fuel, p, q, h1, h2, h3, h4, h5, -⟩ := hl
    cases i with
    | zero =>
      simp only [List.getElem?_cons_zero, Option.some.injEq, Prod.mk.injEq] at h
      obtain ⟨rfl, rfl⟩ := h
      exact ⟨g, t, cs, fuel, p, h1, h2, h3, h4⟩
    | succ i => exact laid_nth r q h5 i n d (by simpa using h)
theorem tab_in {w : World} {ps : List MemPlace} {L : List (String × DataW Unit)} (h : DataW.LaidVars Tryz.prog w L ps) (i g : Nat) (t : TypeId) (l : List Int) (nm : String)
    (hi : L[i]? = some (nm, Lib.tabData .u8 l)) (hg : Tryz.prog.globalNamed nm = some g) (hty : (Tryz.prog.globals[g]?).map (·.type) = some t)
    (ht : Tryz.prog.underlying t = some (.array l.length 5)) (hc1 : Tryz.prog.cellsOf 5 = 1) (hct : Tryz.prog.cellsOf t = l.length) : ∀ k < l.length, w.cell? ⟨g, k, none⟩ = some (.int .u8 (l.getD k 0)) := by
  obtain ⟨g', t', cs, fuel, p, h1, h2, h3, h4⟩ := laid_nth _ _ h i nm _ hi
  obtain rfl := Option.some.inj (hg.symm.trans h1)
  obtain rfl := Option.some.inj (hty.symm.trans h2)
  have hT : Lib.TabIs Tryz.prog w nm .u8 l := by
    unfold Lib.TabIs
    rw [h3, ← Lib.cells_of_tab ht Tryz.underlying5 hc1 hct h4]
  exact fun k hk => hT.cell hg k hk
theorem tabs_of {W : World} (h : laidMetH Tryz.prog Rows.cpuCountsRow.laid W) : Tabs W := by
  rw [MakeChecks.laidMetH_plain _ _ _ (by kernel_rfl)] at h
  obtain ⟨ps, h, -⟩ := h
  exact ⟨fun j hj => tab_in h 0 1 144 askTab "joystick/regs.asked" (by kernel_rfl) (by kernel_rfl) (by kernel_rfl) Tryz.underlying144 (by kernel_rfl) (by kernel_rfl) j hj,
    fun j hj => tab_in h 1 0 144 modeTab "joystick/cpu.modes" (by kernel_rfl) (by kernel_rfl) (by kernel_rfl) Tryz.underlying144 (by kernel_rfl) (by kernel_rfl) j hj⟩
end Go.Proofs.YtljjgakfnajifaaGreatDoor
