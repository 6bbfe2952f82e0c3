import Derived.Test.YtgdeeiimkhjfiaaGreatDoorQ17
import Derived.Laws.ResultCell
set_option maxRecDepth 100000
set_option maxHeartbeats 6400000
namespace Go.Proofs.YtgdeeiimkhjfiaaGreatDoor
open Go.RowKit
section
variable {W0 w : World} {x b tq n c : Nat} {s : Cs} {ix : Bool} {pg : Int} {l : Blocks}
theorem step_halt (hh : s.r.ht = true) (h : Hid (Co W0 w c b s l (n + 6))) :
  CX 15 #[.pointer (some ⟨c, 0, none⟩)] w (.int .i64 4) fun w' => Hid (Co W0 w' c b (s.tick) l n) := by
 obtain ⟨hf, hg, X, hX, hO⟩ := h.out.out
 have HF := Lib.hid hf
 have HF0 := Lib.hid hf
 have HG := Lib.hid hg
 have HX := Lib.hid hX
 have HM := Lib.hid hO
 clear h hf hg hX hO
 go_enter Tryz.func15, Tryz.ntmps15
 go_wp2_with (first | refine cG ?_ | (refine cP ?_; clear HM; intro w' HM) | (exact absurd (hh.symm.trans (by assumption : s.r.ht = false)) Bool.noConfusion) | (go_at_call 29; have hco := Lib.hid (Co.ok HM.out HG.out HX.out); (with_reducible refine (ctick_at hco).mono (coK ?_)); clear hco HM HF HG HX; intro w' X HF HG HX HM))
 go_ret
 have hco := Co.ok HM.out HG.out HX.out
 exact ⟨rfl, Lib.hid (hco.less (by omega))⟩
theorem step_pre_221 (hh : s.r.ht = false) (o : Nat) (ho : Hid (s.begun.nextV = o)) (hop : o = 221) (h : Hid (Co W0 w c b s l (n + 6))) :
  CX 15 #[.pointer (some ⟨c, 0, none⟩)] w (.int .i64 4) fun w' => Hid (Co W0 w' c b (((((s.setDL false).ahead s.r.px).setPX 0)).fetch.setPX o) l n) := by
 have HO : Hid ((((s.setDL false).ahead s.r.px).setPX 0).nextV = o) := ho
 obtain ⟨hf, hg, X, hX, hO⟩ := h.out.out
 have HF := Lib.hid hf
 have HF0 := Lib.hid hf
 have HG := Lib.hid hg
 have HX := Lib.hid hX
 have HM := Lib.hid hO
 have ob : o < 256 := by rw [← ho.out]; exact hf.m _
 have xp : s.r.px < 256 := hf.r.px
 have x0 : 0 < 256 := by decide
 have o221 : ((o : Int) == 221) = true := by rw [hop]; rfl
 have o253 : ((o : Int) == 253) = false := by rw [hop]; rfl
 have o237 : ((o : Int) == 237) = false := by rw [hop]; rfl
 have o203 : ((o : Int) == 203) = false := by rw [hop]; rfl
 clear h hf hg hX hO
 go_enter Tryz.func15, Tryz.ntmps15
 go_wp2_with (first | refine cG ?_ | (refine cP ?_; clear HM; intro w' HM) | (exact absurd (hh.symm.trans (by assumption : s.r.ht = true)) Bool.noConfusion) | (go_at_call 30; have hco := Lib.hid (Co.ok HM.out HG.out HX.out); (with_reducible refine (fetch_at hco).mono (coK ?_)); clear hco HM HF HG HX; intro w' X HF HG HX HM; rw [HO.out]))
 go_ret
 have hco := Co.ok HM.out HG.out HX.out
 exact ⟨rfl, Lib.hid (hco.less (by omega))⟩
theorem step_pre_253 (hh : s.r.ht = false) (o : Nat) (ho : Hid (s.begun.nextV = o)) (hop : o = 253) (h : Hid (Co W0 w c b s l (n + 6))) :
  CX 15 #[.pointer (some ⟨c, 0, none⟩)] w (.int .i64 4) fun w' => Hid (Co W0 w' c b (((((s.setDL false).ahead s.r.px).setPX 0)).fetch.setPX o) l n) := by
 have HO : Hid ((((s.setDL false).ahead s.r.px).setPX 0).nextV = o) := ho
 obtain ⟨hf, hg, X, hX, hO⟩ := h.out.out
 have HF := Lib.hid hf
 have HF0 := Lib.hid hf
 have HG := Lib.hid hg
 have HX := Lib.hid hX
 have HM := Lib.hid hO
 have ob : o < 256 := by rw [← ho.out]; exact hf.m _
 have xp : s.r.px < 256 := hf.r.px
 have x0 : 0 < 256 := by decide
 have o221 : ((o : Int) == 221) = false := by rw [hop]; rfl
 have o253 : ((o : Int) == 253) = true := by rw [hop]; rfl
 have o237 : ((o : Int) == 237) = false := by rw [hop]; rfl
 have o203 : ((o : Int) == 203) = false := by rw [hop]; rfl
 clear h hf hg hX hO
 go_enter Tryz.func15, Tryz.ntmps15
 go_wp2_with (first | refine cG ?_ | (refine cP ?_; clear HM; intro w' HM) | (exact absurd (hh.symm.trans (by assumption : s.r.ht = true)) Bool.noConfusion) | (go_at_call 30; have hco := Lib.hid (Co.ok HM.out HG.out HX.out); (with_reducible refine (fetch_at hco).mono (coK ?_)); clear hco HM HF HG HX; intro w' X HF HG HX HM; rw [HO.out]))
 go_ret
 have hco := Co.ok HM.out HG.out HX.out
 exact ⟨rfl, Lib.hid (hco.less (by omega))⟩
theorem step_cb (hh : s.r.ht = false) (o : Nat) (ho : Hid (s.begun.nextV = o)) (hop : o = 203) (h : Hid (Co W0 w c b s l (n + 6))) :
  CX 15 #[.pointer (some ⟨c, 0, none⟩)] w (.int .i64 ((((((s.setDL false).ahead s.r.px).setPX 0)).fetch.onBitsC : Nat) : Int)) fun w' => Hid (Co W0 w' c b (((((s.setDL false).ahead s.r.px).setPX 0)).fetch.onBits) l n) := by
 have HO : Hid ((((s.setDL false).ahead s.r.px).setPX 0).nextV = o) := ho
 obtain ⟨hf, hg, X, hX, hO⟩ := h.out.out
 have HF := Lib.hid hf
 have HF0 := Lib.hid hf
 have HG := Lib.hid hg
 have HX := Lib.hid hX
 have HM := Lib.hid hO
 have ob : o < 256 := by rw [← ho.out]; exact hf.m _
 have xp : s.r.px < 256 := hf.r.px
 have x0 : 0 < 256 := by decide
 have o221 : ((o : Int) == 221) = false := by rw [hop]; rfl
 have o253 : ((o : Int) == 253) = false := by rw [hop]; rfl
 have o237 : ((o : Int) == 237) = false := by rw [hop]; rfl
 have o203 : ((o : Int) == 203) = true := by rw [hop]; rfl
 clear h hf hg hX hO
 go_enter Tryz.func15, Tryz.ntmps15
 go_wp2_with (first | refine cG ?_ | (refine cP ?_; clear HM; intro w' HM) | (exact absurd (hh.symm.trans (by assumption : s.r.ht = true)) Bool.noConfusion) | (go_at_call 30; have hco := Lib.hid (Co.ok HM.out HG.out HX.out); (with_reducible refine (fetch_at hco).mono (coK ?_)); clear hco HM HF HG HX; intro w' X HF HG HX HM; rw [HO.out]) | (go_at_call 33; have hco := Lib.hid (Co.ok HM.out HG.out HX.out); (with_reducible refine (onBits_at hco).mono (coK ?_)); clear hco HM HF HG HX; intro w' X HF HG HX HM))
 go_ret
 have hco := Co.ok HM.out HG.out HX.out
 exact ⟨rfl, Lib.hid (hco.less (by omega))⟩
theorem step_ed (hh : s.r.ht = false) (hT : Hid (Tabs W0)) (o : Nat) (ho : Hid (s.begun.nextV = o)) (hop : o = 237) (h : Hid (Co W0 w c b s l (n + 6))) :
  CX 15 #[.pointer (some ⟨c, 0, none⟩)] w (.int .i64 ((((((((s.setDL false).ahead s.r.px).setPX 0)).fetch.ahead 0).fetch).rareC (Cs.xOf (((((s.setDL false).ahead s.r.px).setPX 0)).fetch.ahead 0).nextV) (Cs.yOf (((((s.setDL false).ahead s.r.px).setPX 0)).fetch.ahead 0).nextV) (Cs.zOf (((((s.setDL false).ahead s.r.px).setPX 0)).fetch.ahead 0).nextV) : Nat) : Int)) fun w' => Hid (Co W0 w' c b (((((((s.setDL false).ahead s.r.px).setPX 0)).fetch.ahead 0).fetch).rare (Cs.xOf (((((s.setDL false).ahead s.r.px).setPX 0)).fetch.ahead 0).nextV) (Cs.yOf (((((s.setDL false).ahead s.r.px).setPX 0)).fetch.ahead 0).nextV) (Cs.zOf (((((s.setDL false).ahead s.r.px).setPX 0)).fetch.ahead 0).nextV)) l n) := by
 have HO : Hid ((((s.setDL false).ahead s.r.px).setPX 0).nextV = o) := ho
 obtain ⟨hf, hg, X, hX, hO⟩ := h.out.out
 have HF := Lib.hid hf
 have HF0 := Lib.hid hf
 have HG := Lib.hid hg
 have HX := Lib.hid hX
 have HM := Lib.hid hO
 have ob : o < 256 := by rw [← ho.out]; exact hf.m _
 have xp : s.r.px < 256 := hf.r.px
 have x0 : 0 < 256 := by decide
 have o221 : ((o : Int) == 221) = false := by rw [hop]; rfl
 have o253 : ((o : Int) == 253) = false := by rw [hop]; rfl
 have o237 : ((o : Int) == 237) = true := by rw [hop]; rfl
 have o203 : ((o : Int) == 203) = false := by rw [hop]; rfl
 obtain ⟨x, hx⟩ : ∃ x, Hid (Cs.xOf (((((s.setDL false).ahead s.r.px).setPX 0)).fetch.ahead 0).nextV = x) := ⟨_, rfl⟩
 obtain ⟨y, hy⟩ : ∃ y, Hid (Cs.yOf (((((s.setDL false).ahead s.r.px).setPX 0)).fetch.ahead 0).nextV = y) := ⟨_, rfl⟩
 obtain ⟨z, hz⟩ : ∃ z, Hid (Cs.zOf (((((s.setDL false).ahead s.r.px).setPX 0)).fetch.ahead 0).nextV = z) := ⟨_, rfl⟩
 obtain ⟨p, hp⟩ : ∃ p, Hid (y / 2 = p) := ⟨_, rfl⟩
 obtain ⟨q, hq⟩ : ∃ q, Hid (y % 2 = q) := ⟨_, rfl⟩
 have x8 : x < 4 := by rw [← hx.out]; show (((((s.setDL false).ahead s.r.px).setPX 0)).fetch.ahead 0).nextV / 64 < 4; have : (((((s.setDL false).ahead s.r.px).setPX 0)).fetch.ahead 0).nextV < 256 := hf.m _; omega
 have y8 : y < 8 := by rw [← hy.out]; exact Nat.mod_lt _ (by decide)
 have z8 : z < 8 := by rw [← hz.out]; exact Nat.mod_lt _ (by decide)
 have o8 : (((((s.setDL false).ahead s.r.px).setPX 0)).fetch.ahead 0).nextV < 256 := hf.m _
 rw [hx.out, hy.out, hz.out]
 clear h hf hg hX hO
 go_enter Tryz.func15, Tryz.ntmps15
 go_upto_region 15 with (first | refine cG ?_ | (refine cP ?_; clear HM; intro w' HM) | (exact absurd (hh.symm.trans (by assumption : s.r.ht = true)) Bool.noConfusion) | (go_at_call 30; have hco := Lib.hid (Co.ok HM.out HG.out HX.out); (with_reducible refine (fetch_at hco).mono (coK ?_)); clear hco HM HF HG HX; intro w' X HF HG HX HM; rw [HO.out]))
 go_wp2_with (first | refine cG ?_ | (refine cP ?_; clear HM; intro w' HM) | (go_at_call 30; have hco := Lib.hid (Co.ok HM.out HG.out HX.out); (with_reducible refine (fetch_at hco).mono (coK ?_)); clear hco HM HF HG HX; intro w' X HF HG HX HM) | (go_at_call 32; (with_reducible refine (parts_of (((((s.setDL false).ahead s.r.px).setPX 0)).fetch.ahead 0).nextV x y z p q o8 hx hy hz hp hq _).mono ?_); rintro e w' ⟨rfl, hb⟩; replace HM := Lib.hid (HM.out.call hb); clear hb) | (go_at_call 31; have hco := Lib.hid (Co.ok HM.out HG.out HX.out); (with_reducible refine (rare_at hT x y z p q z8 hp.out hq.out hco).mono (coK ?_)); clear hco HM HF HG HX; intro w' X HF HG HX HM))
 go_ret
 have hco := Co.ok HM.out HG.out HX.out
 exact ⟨rfl, Lib.hid (hco.less (by omega))⟩
theorem step_plain (hh : s.r.ht = false) (hT : Hid (Tabs W0)) (o : Nat) (ho : Hid (s.begun.nextV = o)) (hop : o ≠ 221 ∧ o ≠ 253 ∧ o ≠ 237 ∧ o ≠ 203) (h : Hid (Co W0 w c b s l (n + 6))) :
  CX 15 #[.pointer (some ⟨c, 0, none⟩)] w (.int .i64 ((((((s.setDL false).ahead s.r.px).setPX 0)).fetch.plainC (Cs.xOf o) (Cs.yOf o) (Cs.zOf o) : Nat) : Int)) fun w' => Hid (Co W0 w' c b (((((s.setDL false).ahead s.r.px).setPX 0)).fetch.plain (Cs.xOf o) (Cs.yOf o) (Cs.zOf o)) l n) := by
 have HO : Hid ((((s.setDL false).ahead s.r.px).setPX 0).nextV = o) := ho
 obtain ⟨hf, hg, X, hX, hO⟩ := h.out.out
 have HF := Lib.hid hf
 have HF0 := Lib.hid hf
 have HG := Lib.hid hg
 have HX := Lib.hid hX
 have HM := Lib.hid hO
 have ob : o < 256 := by rw [← ho.out]; exact hf.m _
 have xp : s.r.px < 256 := hf.r.px
 have x0 : 0 < 256 := by decide
 have o221 : ((o : Int) == 221) = false := by simp; omega
 have o253 : ((o : Int) == 253) = false := by simp; omega
 have o237 : ((o : Int) == 237) = false := by simp; omega
 have o203 : ((o : Int) == 203) = false := by simp; omega
 obtain ⟨x, hx⟩ : ∃ x, Hid (Cs.xOf o = x) := ⟨_, rfl⟩
 obtain ⟨y, hy⟩ : ∃ y, Hid (Cs.yOf o = y) := ⟨_, rfl⟩
 obtain ⟨z, hz⟩ : ∃ z, Hid (Cs.zOf o = z) := ⟨_, rfl⟩
 obtain ⟨p, hp⟩ : ∃ p, Hid (y / 2 = p) := ⟨_, rfl⟩
 obtain ⟨q, hq⟩ : ∃ q, Hid (y % 2 = q) := ⟨_, rfl⟩
 have x8 : x < 4 := by rw [← hx.out]; show o / 64 < 4; omega
 have y8 : y < 8 := by rw [← hy.out]; exact Nat.mod_lt _ (by decide)
 have z8 : z < 8 := by rw [← hz.out]; exact Nat.mod_lt _ (by decide)
 have o8 := ob
 rw [hx.out, hy.out, hz.out]
 clear hop
 clear h hf hg hX hO
 go_enter Tryz.func15, Tryz.ntmps15
 go_wp2_with (first | refine cG ?_ | (refine cP ?_; clear HM; intro w' HM) | (exact absurd (hh.symm.trans (by assumption : s.r.ht = true)) Bool.noConfusion) | (go_at_call 30; have hco := Lib.hid (Co.ok HM.out HG.out HX.out); (with_reducible refine (fetch_at hco).mono (coK ?_)); clear hco HM HF HG HX; intro w' X HF HG HX HM; rw [HO.out]) | (go_at_call 32; (with_reducible refine (parts_of o x y z p q o8 hx hy hz hp hq _).mono ?_); rintro e w' ⟨rfl, hb⟩; replace HM := Lib.hid (HM.out.call hb); clear hb) | (go_at_call 34; have hco := Lib.hid (Co.ok HM.out HG.out HX.out); (with_reducible refine (plain_at hT x y z p q x8 y8 z8 hp.out hq.out hco).mono (coK ?_)); clear hco HM HF HG HX; intro w' X HF HG HX HM))
 go_ret
 have hco := Co.ok HM.out HG.out HX.out
 exact ⟨rfl, Lib.hid (hco.less (by omega))⟩
theorem step_at (hT : Hid (Tabs W0)) (h : Hid (Co W0 w c b s l (n + 6))) :
  CX 15 #[.pointer (some ⟨c, 0, none⟩)] w (.int .i64 ((s.stepC : Nat) : Int)) fun w' => Hid (Co W0 w' c b (s.step) l n) := by
 cases hh : s.r.ht
 ·obtain ⟨o, ho⟩ : ∃ o, Hid (s.begun.nextV = o) := ⟨_, rfl⟩
  obtain ⟨e1, e2⟩ := Cs.step_eq s o ho.out hh
  rw [← Cs.begun_fetch] at e1 e2
  rw [e1, e2]
  by_cases h1 : o = 221
  ·obtain ⟨e3, e4⟩ := Cs.do_prefix s.begun.fetch o (.inl h1)
   rw [e3, e4]; exact step_pre_221 hh o ho h1 h
  by_cases h2 : o = 253
  ·obtain ⟨e3, e4⟩ := Cs.do_prefix s.begun.fetch o (.inr h2)
   rw [e3, e4]; exact step_pre_253 hh o ho h2 h
  by_cases h3 : o = 237
  ·subst h3
   obtain ⟨e3, e4⟩ := Cs.do_rare s.begun.fetch
   rw [e3, e4]; exact step_ed hh hT 237 ho rfl h
  by_cases h4 : o = 203
  ·subst h4
   have e3 : s.begun.fetch.perform 203 = s.begun.fetch.onBits := (if_neg (by decide)).trans ((if_neg (by decide)).trans ((if_neg (by decide)).trans (if_pos rfl)))
   have e4 : s.begun.fetch.performC 203 = s.begun.fetch.onBitsC := (if_neg (by decide)).trans ((if_neg (by decide)).trans ((if_neg (by decide)).trans (if_pos rfl)))
   rw [e3, e4]; exact step_cb hh 203 ho rfl h
  obtain ⟨e3, e4⟩ := Cs.do_plain s.begun.fetch o ⟨h1, h2, h3, h4⟩
  rw [e3, e4]; exact step_plain hh hT o ho ⟨h1, h2, h3, h4⟩ h
 ·obtain ⟨e1, e2⟩ := Cs.step_halted s hh
  rw [e1, e2]; exact step_halt hh h
theorem aggCore : Agg Tryz.prog 52 31 := ⟨⟨_, Tryz.underlying52, rfl⟩, by kernel_rfl⟩
def core0 : List Value := rg0.cells ++ [Value.nilIface, .int .u8 0]
theorem zeroCore : Zero Tryz.prog 52 core0 := ⟨.agg core0.toArray, fun _ => by kernel_rfl, rfl⟩
theorem core0_length : core0.length = 31 := rfl
theorem Cs.one1 (s : Cs) (b : Nat) : (s.cells b).all (·.oneCell') = true := rfl
theorem own_results2 {P : Program} {fn : Func} {p q : Tmp} {ty t : TypeId} {g n : Nat} {cs : List Value} {v : Value} (HM : Hid (Own W0 w l)) (h : fn.results = #[.cell p ty, .tmp q]) (tmps : Array Value) (hp : tmps.getD p undef = .pointer (some ⟨g, 0, none⟩)) (hq : tmps.getD q undef = v) (hs : Sel l g t cs)
  (hty : Agg P ty n) (hn : cs.length = n) : (results fn tmps).run P w = .ok (.tuple #[.agg cs.toArray, v]) w := by
 obtain ⟨⟨d, hu, hr⟩, hsz⟩ := hty
 have hrun := run_loadVar_row (P := P) w g t ty cs.toArray (0, 0) d (HM.out.at_ hs) hu (by cases d <;> first | rfl | cases hr) (by simpa [hn] using hsz)
 rw [results_cell_tmp h, hp, hq]
 simp [asAddr, Result.andThen, hrun]
theorem Own.rest {e : Nat × TypeId × List Value} (h : Own W0 w (e :: l)) : Own W0 w l := h.tail (l1 := [e])
theorem own_move {P : Program} {w : World} {ops : Array Oper} {rest : List Oper} {o : Oper} {a : Act} {Q : Exit → Act → World → Prop} {x : Operand} {v : Value} (ho : o.op = .move x) (hx : a.eval x = v) (hw : Region.wanted o (yielded ops a.tmps) = true)
  (h : wpList P ops Q rest (a.put o.dst v) w) : wpList P ops Q (o :: rest) a w := by
 refine wpList_wanted hw fun K hK => ?_
 unfold Oper.wp execOp
 simp only [ho, hx]
 exact hK _ _ h
theorem own_built {P : Program} {w : World} {ops : Array Oper} {rest : List Oper} {o : Oper} {a : Act} {Q : Exit → Act → World → Prop} {t : TypeId} {parts : Array (Nat × Operand)} {v : Value} {parts' : Array (Nat × Value)} (hx : ∀ w, (Instr.build t parts').run P w = .ok v w)
  (ho : o.op = .build t parts) (hp : (parts.map fun (i, x) => (i, a.eval x)) = parts') (hw : Region.wanted o (yielded ops a.tmps) = true) (h : wpList P ops Q rest (a.put o.dst v) w) : wpList P ops Q (o :: rest) a w := by
 refine wpList_wanted hw fun K hK => ?_
 unfold Oper.wp execOp
 simp only [ho, Sem.run_bind, hp]
 rw [hx]
 exact hK _ _ h
theorem own_built1 {P : Program} {w : World} {ops : Array Oper} {rest : List Oper} {o : Oper} {a : Act} {Q : Exit → Act → World → Prop} {t : TypeId} {i : Nat} {x : Operand} {vx v : Value} (hx : ∀ w, (Instr.build t #[(i, vx)]).run P w = .ok v w)
  (ho : o.op = .build t #[(i, x)]) (h1 : a.eval x = vx) (hw : Region.wanted o (yielded ops a.tmps) = true) (h : wpList P ops Q rest (a.put o.dst v) w) : wpList P ops Q (o :: rest) a w :=
 own_built hx ho (by simp [h1]) hw h
theorem own_built2 {P : Program} {w : World} {ops : Array Oper} {rest : List Oper} {o : Oper} {a : Act} {Q : Exit → Act → World → Prop} {t : TypeId} {i j : Nat} {x y : Operand} {vx vy v : Value} (hx : ∀ w, (Instr.build t #[(i, vx), (j, vy)]).run P w = .ok v w)
  (ho : o.op = .build t #[(i, x), (j, y)]) (h1 : a.eval x = vx) (h2 : a.eval y = vy) (hw : Region.wanted o (yielded ops a.tmps) = true) (h : wpList P ops Q rest (a.put o.dst v) w) : wpList P ops Q (o :: rest) a w :=
 own_built hx ho (by simp [h1, h2]) hw h
theorem build_core (r : Rg) (b : Nat) (u : U) (w : World) : (Instr.build 52 #[(0, r.v), (1, .iface 29 (.pointer (some ⟨b, 0, none⟩)))]).run Tryz.prog w = .ok (.agg ((Cs.mk r 0 u).cells b).toArray) w := by
 exact k57
theorem awake_at (r : Rg) (b : Nat) (u : U) (w : World) :
  CB 14 #[r.v, .iface 29 (.pointer (some ⟨b, 0, none⟩))] w (.agg ((Cs.mk r 0 u).cells b).toArray) := by
 have hb : ∀ w, (Instr.build 52 #[(0, r.v), (1, .iface 29 (.pointer (some ⟨b, 0, none⟩)))]).run Tryz.prog w = .ok (.agg ((Cs.mk r 0 u).cells b).toArray) w := build_core r b u
 have HM := Lib.hid (Own.start w)
 go_enter Tryz.func14, Tryz.ntmps14
 go_upto_region 3 with (first | (refine a0 ?_; clear HM; intro w' g' HM) | refine a6 ?_ | ((with_reducible apply own_alloc HM); exact rfl; (with_reducible exact zeroCore); exact rfl; clear HM; intro w' g' HM))
 refine wp_region_lit ?_
 (refine a6 ?_)
 (with_reducible apply own_move); exact rfl; exact rfl; exact rfl
 (with_reducible apply own_built2 hb); exact rfl; exact rfl; exact rfl; exact rfl
 ((with_reducible apply own_lay HM); exact rfl; exact rfl; exact rfl; (first | with_reducible exact .z | with_reducible exact .s .z | with_reducible exact .s (.s .z)); (first | with_reducible exact .z | with_reducible exact .s .z | with_reducible exact .s (.s .z)); exact aggCore.size; (first | exact Cs.cells_length _ _ | exact rfl); (first | exact core0_length | exact Cs.cells_length _ _ | exact rfl); exact Cs.one1 _ _; exact rfl; exact rfl; clear HM; intro w' HM)
 go_wp2_with fail
 refine bodyPost_ret (v := .agg ((Cs.mk r 0 u).cells b).toArray) (own_results HM Tryz.results14 _ rfl (by first | exact .z | exact .s .z) aggCore) rfl ⟨rfl, Own.fin HM⟩
theorem step_as {c b n k : Nat} {s s' : Cs} (hT : Hid (Tabs W0)) (hs : Hid (s.step = s')) (hk : Hid (s.stepC = k)) (h : Hid (Co W0 w c b s l (n + 6))) :
  CX 15 #[.pointer (some ⟨c, 0, none⟩)] w (.int .i64 (k : Int)) fun w' => Hid (Co W0 w' c b s' l n) := by
 rw [← hs.out, ← hk.out]
 exact step_at hT h
theorem step_any (hT : Hid (Tabs W0)) (r : Rg) (u : U) (hr : r.Fits) (h : Hid (Bx W0 w b u l (n + 6))) :
  CX 9 #[r.v, .iface 29 (.pointer (some ⟨b, 0, none⟩))] w (.tuple #[(Cs.step ⟨r, 0, u⟩).r.v, .int .i64 (((Cs.stepC ⟨r, 0, u⟩) : Nat) : Int)]) fun w' => (Cs.step ⟨r, 0, u⟩).r.Fits ∧ Hid (Bx W0 w' b (Cs.step ⟨r, 0, u⟩).u l n) := by
 obtain ⟨hg, X, hX, hO⟩ := h.out
 have HG := Lib.hid hg
 have HX := Lib.hid hX
 have HM := Lib.hid hO
 have HR := Lib.hid hr
 have HF : Hid (Cs.mk r 0 u).Fits := Lib.hid ⟨hr, by show 0 < 256; decide, hg.m8⟩
 clear h hg hX hO hr
 obtain ⟨s', hs'⟩ : ∃ x, Hid (Cs.step ⟨r, 0, u⟩ = x) := ⟨_, rfl⟩
 obtain ⟨k', hk'⟩ : ∃ x, Hid (Cs.stepC ⟨r, 0, u⟩ = x) := ⟨_, rfl⟩
 rw [hs'.out, hk'.out]
 go_enter Tryz.func9, Tryz.ntmps9
 go_upto_region 2 with (first | (refine a0 ?_; clear HM; intro w' g' HM) | refine a6 ?_ | ((with_reducible apply own_alloc HM); exact rfl; (first | (with_reducible exact zeroR) | (with_reducible exact zeroCore)); exact rfl; clear HM; intro w' g' HM) | (go_at_call 14; (with_reducible refine (awake_at r b u _).mono ?_); rintro e w' ⟨rfl, hb⟩; replace HM := Lib.hid (HM.out.call hb); clear hb) | ((with_reducible apply own_lay HM); exact rfl; exact rfl; exact rfl; (first | with_reducible exact .z | with_reducible exact .s .z | with_reducible exact .s (.s .z)); (first | with_reducible exact .z | with_reducible exact .s .z | with_reducible exact .s (.s .z)); exact aggCore.size; (first | exact Cs.cells_length _ _ | exact rfl); (first | exact core0_length | exact Cs.cells_length _ _ | exact rfl); exact Cs.one1 _ _; exact rfl; exact rfl; clear HM; intro w' HM))
 go_upto_region 3 with (first | (go_at_call 15; have hco := Lib.hid (Co.made (s := ⟨r, 0, u⟩) (l := _ :: _ :: l) HM.out HG.out HX.out HF.out); (with_reducible refine (step_as hT hs' hk' hco).mono ?_); clear hco; rintro e w' ⟨rfl, hc⟩; clear HM HF HG HX; obtain ⟨X, HF, HG, HX, HM⟩ := hc.out.hid2; clear hc))
 go_wp2_with (first | ((with_reducible apply crY HM); exact crS) | ((with_reducible apply own_lay HM); exact rfl; exact rfl; exact rfl; (with_reducible exact .s .z); (with_reducible exact .s .z); exact aggR.size; exact Rg.cells_length _; exact lS; exact Rg.one1 _; exact rfl; exact rfl; clear HM; intro w' HM))
 refine bodyPost_ret (v := .tuple #[s'.r.v, .int .i64 (k' : Int)]) (own_results2 HM Tryz.results9 _ rfl rfl (.s .z) aggR (Rg.cells_length _)) rfl ⟨rfl, HF.out.r, Lib.hid ⟨HG.out, _, HX.out, HM.out.rest.rest.rest⟩⟩
theorem own_makes {P : Program} {ops : Array Oper} {rest : List Oper} {o : Oper} {a : Act} {Q : Exit → Act → World → Prop} {e : TypeId} {n : Nat} {cs : List Value} {vx vy : Value} (HM : Hid (Own W0 w l))
  {t : TypeId} {x y : Operand} (ho : o.op = .makeSlice t x y) (h1 : a.eval x = vx) (h2 : a.eval y = vy) (hx : ∀ w, (Instr.makeSlice t vx vy).run P w = .ok (.slice (some ⟨w.heap.size, 0, none⟩) n n) (w.alloc (.cells cs.toArray e))) (hw : Region.wanted o (yielded ops a.tmps) = true)
  (h : ∀ w' g, Hid (Own W0 w' ((g, e, cs) :: l)) → wpList P ops Q rest (a.put o.dst (.slice (some ⟨g, 0, none⟩) n n)) w') : wpList P ops Q (o :: rest) a w := by
 refine wpList_wanted hw fun K hK => ?_
 unfold Oper.wp execOp
 simp only [ho, Sem.run_bind, h1, h2]
 rw [hx]
 exact hK _ _ (h _ _ (HM.out.new e cs))
theorem made_some (n : Nat) (h : n ≤ 2147483647) (w : World) : (Instr.makeSlice 26 (.int .i64 (n : Int)) (.int .i64 (n : Int))).run Tryz.prog w = .ok (.slice (some ⟨w.heap.size, 0, none⟩) n n) (w.alloc (.cells (List.replicate n (Value.int .u8 0)).toArray 5)) := by
 have hi : (Tryz.prog.info? 5).map (fun i => (i.zero, i.size, i.bytes)) = some (some (.int .u8 0), 1, 1) := by kernel_rfl
 obtain ⟨i0, hi, hz0, hz1, hz2⟩ : ∃ i : TypeInfo, Tryz.prog.info? 5 = some i ∧ i.zero = some (.int .u8 0) ∧ i.size = 1 ∧ i.bytes = 1 := by
  cases hq : Tryz.prog.info? 5 with
  | none => rw [hq] at hi; simp at hi
  | some i => rw [hq] at hi; simp at hi; exact ⟨i, rfl, hi.1, hi.2.1, hi.2.2⟩
 have hr := run_make (P := Tryz.prog) w 26 5 i0 (.int .u8 0) Tryz.underlying26 hi hz0 .i64 .i64 (n : Int) (n : Int) (by omega) (by omega) (by rw [hz2]; omega) (by omega)
 rw [hr]
 rw [Int.toNat_natCast, hz1, Nat.mul_one]
 congr 3
 apply Array.ext'
 rw [show (Value.int IntKind.u8 0).cells = #[Value.int IntKind.u8 0] from rfl, toList_madeCells_one]
theorem mem0 : mcells (fun _ => 0) = List.replicate 65536 (Value.int .u8 0) := by
 apply List.ext_getElem?
 intro i
 by_cases h : i < 65536
 ·rw [mcells_get _ i h, List.getElem?_replicate, if_pos h]; rfl
 ·rw [List.getElem?_replicate, if_neg h, List.getElem?_eq_none (by rw [mcells_length]; omega)]
theorem made_mem (w : World) : (Instr.makeSlice 26 (.int .i64 65536) (.int .i64 65536)).run Tryz.prog w = .ok (.slice (some ⟨w.heap.size, 0, none⟩) 65536 65536) (w.alloc (.cells (mcells fun _ => 0).toArray 5)) := by
 rw [mem0]
 exact made_some 65536 (by omega) w
def part (f k i : Nat) : Nat := if i < k then bas f i else 0
theorem part_zero (f : Nat) : part f 0 = fun _ => 0 := by funext i; exact if_neg (by omega)
theorem part_step (f k : Nat) : upd (part f k) k (bas f k) = part f (k + 1) := by
 funext i
 unfold upd part
 by_cases h : i = k
 ·rw [if_pos h, if_pos (by omega), h]
 ·rw [if_neg h]
  by_cases h2 : i < k
  ·rw [if_pos h2, if_pos (by omega)]
  ·rw [if_neg h2, if_neg (by omega)]
theorem mcells_congr {m m' : Nat → Nat} (h : ∀ i, i < 65536 → m i = m' i) : mcells m = mcells m' := by
 unfold mcells
 apply List.map_congr_left
 intro i hi
 rw [h i (List.mem_range.1 hi)]
theorem mcells_full (f : Nat) : mcells (part f 65536) = mcells (bas f) := mcells_congr fun _ hi => if_pos hi
def Reads (W0 : World) (l : Blocks) (a : Option Addr) (ys : List Nat) : Prop :=
 (∀ y ∈ ys, y < 256) ∧ (0 < ys.length → ∃ g o, a = some ⟨g, o, none⟩ ∧ ∀ w, Own W0 w l → ∀ (i y : Nat), ys[i]? = some y → w.cell? ⟨g, o + i, none⟩ = some (.int .u8 (y : Int)))
theorem Bx.new {b gm : Nat} {m : Nat → Nat} (h8 : ∀ i, m i < 256) (h : Own W0 w ((b, 39, [.slice (some ⟨gm, 0, none⟩) 65536 65536, .slice none 0 0]) :: (gm, 5, mcells m) :: l)) : Bx W0 w b ⟨m, []⟩ l 1000000 :=
 ⟨⟨h8, by show 0 + 1000000 ≤ 1000000; decide⟩, _, ⟨gm, .slice none 0 0, [], rfl, RowOf.nil _ _⟩, h.perm (List.perm_append_comm (l₁ := [_, _]))⟩
theorem build_box (v : Value) (hv : ∃ g N, v = .slice (some ⟨g, 0, none⟩) N N) (w : World) : (Instr.build 39 #[(0, v)]).run Tryz.prog w = .ok (.agg #[v, .slice none 0 0]) w := by
 obtain ⟨g, N, rfl⟩ := hv
 kernel_rfl
theorem box_at (at_ f cap : Nat) (ys : List Nat) (a : Option Addr) (ha : at_ < 65536) (hl : ys.length ≤ 65536) (hR : Hid (Reads W0 l a ys)) (h : Hid (Own W0 w l)) :
  Calls Tryz.prog 7 #[.int .u16 (at_ : Int), .slice a ys.length cap, .int .u8 (f : Int)] w fun e w' => ∃ b, e = .returned (.pointer (some ⟨b, 0, none⟩)) ∧ Hid (Bx W0 w' b ⟨lay (bas f) at_ ys, []⟩ l 1000000) := by
 obtain ⟨N, hN⟩ : ∃ N : Nat, Hid (N = 65536) := ⟨_, rfl⟩
 have hmk : Hid (∀ w, (Instr.makeSlice 26 (.int .i64 65536) (.int .i64 65536)).run Tryz.prog w = .ok (.slice (some ⟨w.heap.size, 0, none⟩) N N) (w.alloc (.cells (mcells fun _ => 0).toArray 5))) := Lib.hid (by rw [hN.out]; exact made_mem)
 have hbx : Hid (∀ gm w, (Instr.build 39 #[(0, .slice (some ⟨gm, 0, none⟩) N N)]).run Tryz.prog w = .ok (.agg #[.slice (some ⟨gm, 0, none⟩) N N, .slice none 0 0]) w) := Lib.hid (fun gm w => build_box _ ⟨gm, N, rfl⟩ w)
 have hm8 := Lib.hid (lay_lt (bas f) at_ ys (bas_lt f) hR.out.1)
 have HA := Lib.hid ha
 have HL := Lib.hid hl
 obtain ⟨n, hn⟩ : ∃ n, Hid (ys.length = n) := ⟨_, rfl⟩
 have HM := h
 rw [hn.out]
 clear h hl ha
 go_enter Tryz.func7, Tryz.ntmps7
 go_upto_region 2 with (first | ((with_reducible apply own_makes (cs := mcells fun _ => 0) (e := 5) (n := N) HM); exact rfl; exact rfl; exact rfl; exact hmk.out; exact rfl; intro w' gm HM'; clear HM; have HM := HM'; clear HM'; have hb := hbx.out gm) | (refine a0 ?_; intro w' b HM'; clear HM; have HM := HM'; clear HM'))
 clear hb
 go_upto_region 3 with (first | (refine a0 ?_; clear HM; intro w' g' HM) | refine a47 ?_ | (refine a48 ?_; clear HM; intro w' HM))
 go_loopw [19] (fun i wr => ∃ k : Nat, k ≤ N ∧ i = .int .i64 (k : Int) ∧ Hid (Own W0 wr ((b, 39, [.slice (some ⟨gm, 0, none⟩) N N, .slice none 0 0]) :: (gm, 5, mcells (part f k)) :: l))) (fun i _ => N - (intOf i).toNat)
 case atStart => exact ⟨0, by omega, rfl, by rw [part_zero]; exact HM⟩
 case round =>
  obtain ⟨k, hk, rfl, HM⟩ := hrel
  by_cases hlt : k < N
  ·obtain ⟨p, hp⟩ : ∃ p : Nat, k % 256 = p := ⟨_, rfl⟩
   obtain ⟨d, hd⟩ : ∃ d : Nat, k / 256 = d := ⟨_, rfl⟩
   obtain ⟨q, hq⟩ : ∃ q : Nat, p * f % 256 = q := ⟨_, rfl⟩
   have hN' := hN.out
   have k1 : k < 65536 := by omega
   have HK := Lib.hid k1
   have e0 : (k : Int) % 256 = (p : Int) := by omega
   have e1 : IntKind.u8.wrap ((p : Int) * (f : Int)) = (q : Int) := by show ((p : Int) * (f : Int)) % 256 = _; rw [← Int.natCast_mul]; omega
   have e2 : (k : Int) / 256 = (d : Int) := by omega
   have e3 : (d : Int) < 256 := by omega
   have hlt2 : (k : Int) < (N : Int) := by omega
   have ex : bits .xor .u8 (q : Int) (d : Int) = ((bas f k : Nat) : Int) := by
    rw [u8_xor _ _ (by omega) (by omega) (by omega) (by omega), Int.toNat_natCast, Int.toNat_natCast]
    unfold bas
    rw [hp, hq, hd, Nat.mod_eq_of_lt (show d < 256 by omega)]
    rfl
   have hk1 : (k : Int) < 65536 := by omega
   clear hp hd hq hN' k1 hk
   obtain ⟨B, hB⟩ : ∃ B, Hid (bas f k = B) := ⟨_, rfl⟩
   rw [hB.out] at ex
   go_wp2_with (first | (refine a0 ?_; clear HM; intro w' g' HM) | refine a47 ?_ | (refine a48 ?_; clear HM; intro w' HM) | ((with_reducible apply own_put HM (v := .int .u8 (B : Int)) (cs := mcells (part f k))); exact rfl; exact rfl; exact rfl; exact .s .z; exact .s .z; exact oneU8.size; exact rfl; exact rfl; (rw [mcells_length]; exact HK.out); exact rfl; clear HM; intro w' HM))
   go_roundw
   case rel => exact ⟨k + 1, by omega, by go_num, by have h := HM.out; rw [mcells_set, ← hB.out, part_step] at h; exact Lib.hid h⟩
   case measure => simp [intOf]; omega
  ·obtain rfl : k = N := by omega
   have HM' : Hid (Own W0 wr ((b, 39, [.slice (some ⟨gm, 0, none⟩) k k, .slice none 0 0]) :: (gm, 5, mcells (lay (bas f) at_ (ys.take 0))) :: l)) := by
    have h := HM.out
    rw [show mcells (part f k) = mcells (bas f) by rw [hN.out]; exact mcells_full f] at h
    exact Lib.hid h
   clear HM; have HM := HM'; clear HM'
   clear hk hlt
   go_wp2_with fail
   go_loopw [39] (fun i wr => ∃ j : Nat, j ≤ n ∧ i = .int .i64 (j : Int) ∧ Hid (Own W0 wr ((b, 39, [.slice (some ⟨gm, 0, none⟩) k k, .slice none 0 0]) :: (gm, 5, mcells (lay (bas f) at_ (ys.take j))) :: l))) (fun i _ => n - (intOf i).toNat)
   case atStart => exact ⟨0, by omega, rfl, HM⟩
   case round =>
    obtain ⟨j, hj, rfl, HM⟩ := hrel
    have hn' := hn.out
    by_cases hlt : j < n
    ·obtain ⟨y, hy⟩ : ∃ y, ys[j]? = some y := ⟨_, List.getElem?_eq_getElem (by omega)⟩
     obtain ⟨g, o, rfl, hc⟩ := hR.out.2 (by omega)
     have y1 : y < 256 := hR.out.1 y (List.mem_of_getElem? hy)
     have hcj := hc wr HM.out.rest.rest j y hy
     obtain ⟨q, hq⟩ : ∃ q, Hid ((at_ + j) % 65536 = q) := ⟨_, rfl⟩
     have q1 : q < 65536 := by rw [← hq.out]; exact Nat.mod_lt _ (by decide)
     have HQ := Lib.hid q1
     have hk' := hN.out
     have hL' := HL.out
     have j1 : (j : Int) < 65536 := by omega
     have hlt2 : (j : Int) < (n : Int) := by omega
     have e1 : IntKind.u16.wrap ((at_ : Int) + (j : Int)) = (q : Int) := by rw [← hq.out]; show ((at_ : Int) + (j : Int)) % 65536 = _; omega
     have qk : (q : Int) < (k : Int) := by omega
     have HY := Lib.hid hy
     have hl' : (lay (bas f) at_ (ys.take (j + 1))) = upd (lay (bas f) at_ (ys.take j)) q y := by
      have e : ys.take (j + 1) = ys.take j ++ [y] := by rw [List.take_add_one, hy]; rfl
      rw [e, lay_end _ _ _ _ HA.out, List.length_take, Nat.min_eq_left (by omega), hq.out]
     have HLY := Lib.hid hl'
     clear hn' hy q1 hk' hL' hl' hj hc
     go_wp2_with (first | (refine a0 ?_; clear HM; intro w' g' HM) | refine a47 ?_ | (refine a48 ?_; clear HM; intro w' HM) | ((with_reducible apply own_put HM (v := .int .u8 (y : Int)) (cs := mcells (lay (bas f) at_ (ys.take j)))); exact rfl; exact rfl; exact rfl; exact .s .z; exact .s .z; exact oneU8.size; exact rfl; exact rfl; (rw [mcells_length]; exact HQ.out); exact rfl; clear HM; intro w' HM))
     go_roundw
     case rel => exact ⟨j + 1, by omega, by go_num, by have h := HM.out; rw [mcells_set, ← HLY.out] at h; exact Lib.hid h⟩
     case measure => simp [intOf]; omega
    ·obtain rfl : j = n := by omega
     have HM' : Hid (Own W0 wr ((b, 39, [.slice (some ⟨gm, 0, none⟩) k k, .slice none 0 0]) :: (gm, 5, mcells (lay (bas f) at_ ys)) :: l)) := by
      have h := HM.out
      rw [List.take_of_length_le (by omega)] at h
      exact Lib.hid h
     clear HM; have HM := HM'; clear HM' hn' hj hlt
     go_wp2_with fail
     go_ret
     have hk' := hN.out
     subst hk'
     exact ⟨b, rfl, Lib.hid (Bx.new hm8.out HM.out)⟩
def stepR (r : Rg) (u : U) : Rg := (Cs.step ⟨r, 0, u⟩).r
def stepU (r : Rg) (u : U) : U := (Cs.step ⟨r, 0, u⟩).u
def stepN (r : Rg) (u : U) : Nat := Cs.stepC ⟨r, 0, u⟩
-- prefixes
theorem fetched_r (s : Cs) : s.fetched.r = { s.r with dl := false, px := 0, pc := up1 s.r.pc, r := s.r.r / 128 * 128 + (s.r.r % 128 + 1) % 128 } := rfl
theorem fetched_m (s : Cs) : s.fetched.u.m = s.u.m := rfl
theorem fetched_px (s : Cs) : s.fetched.px = s.r.px := rfl
theorem step_begin (r : Rg) (u : U) (o : Nat) (hm : u.m r.pc = o) (hh : r.ht = false) : ∃ s : Cs, s.r = { r with dl := false, px := 0, pc := up1 r.pc, r := r.r / 128 * 128 + (r.r % 128 + 1) % 128 } ∧ s.u.m = u.m ∧ s.px = r.px ∧ stepR r u = (s.perform o).r ∧ (stepU r u).m = (s.perform o).u.m ∧ stepN r u = s.performC o := by
 obtain ⟨e1, e2⟩ := Cs.step_eq ⟨r, 0, u⟩ o hm hh
 exact ⟨_, fetched_r _, fetched_m _, fetched_px _, congrArg Cs.r e1, congrArg (fun s => s.u.m) e1, e2⟩
def Rg.base (r : Rg) : Rg := { r with pc := 0, r := 0, wz := 0, dl := false, px := 0, sp := 0, iy := 0 }
end
end Go.Proofs.YtgdeeiimkhjfiaaGreatDoor
