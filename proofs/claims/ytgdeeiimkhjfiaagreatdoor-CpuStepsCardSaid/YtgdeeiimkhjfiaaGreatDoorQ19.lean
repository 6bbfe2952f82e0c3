import Derived.Test.YtgdeeiimkhjfiaaGreatDoorQ18
set_option maxRecDepth 100000
set_option maxHeartbeats 6400000
namespace Go.Proofs.YtgdeeiimkhjfiaaGreatDoor
open Go.RowKit
section
variable {W0 w : World} {x b tq n c : Nat} {s : Cs} {ix : Bool} {pg : Int} {l : Blocks}
theorem reads_own {W0 : World} {g : Nat} {t : TypeId} (ys : List Nat) (h8 : ∀ y ∈ ys, y < 256) : Reads W0 ((g, t, ys.map fun y : Nat => .int .u8 (y : Int)) :: l) (some ⟨g, 0, none⟩) ys := by
 refine ⟨h8, fun _ => ⟨g, 0, rfl, fun w hw i y hy => ?_⟩⟩
 refine hw.cells_at .z _ _ ?_
 rw [Nat.zero_add, List.getElem?_map, hy]
 rfl
theorem box_alive {g : Nat} (h : Hid (Own W0 w ((g, 5, [.int .u8 62, .int .u8 5]) :: l))) :
  Calls Tryz.prog 7 #[.int .u16 100, .slice (some ⟨g, 0, none⟩) 2 2, .int .u8 0] w fun e w' => ∃ b, e = .returned (.pointer (some ⟨b, 0, none⟩)) ∧ Hid (Bx W0 w' b ⟨lay (bas 0) 100 [62, 5], []⟩ ((g, 5, [.int .u8 62, .int .u8 5]) :: l) 1000000) :=
 box_at 100 0 2 [62, 5] _ (by decide) (by decide) (Lib.hid (reads_own [62, 5] (by decide))) h
theorem box_alive_made (w : World) : (Instr.buildSlice 26 2 #[(0, .int .u8 62), (1, .int .u8 5)]).run Tryz.prog w = .ok (.slice (some ⟨w.heap.size, 0, none⟩) 2 2) (w.alloc (.cells ([.int .u8 62, .int .u8 5] : List Value).toArray 5)) := by kernel_rfl
def rgP : Rg := { rg0 with pc := 100 }
def rgQ : Rg := { rg0 with a := 5, pc := 102, r := 1 }
theorem rg0_fits : rg0.Fits := ⟨by decide, by decide, by decide, by decide, by decide, by decide, by decide, by decide, by decide, by decide, by decide, by decide, by decide, by decide, by decide, by decide, by decide, by decide, by decide, by decide, by decide, by decide, by decide, by decide, by decide⟩
theorem rgP_fits : rgP.Fits := { rg0_fits with pc := (by decide) }
theorem lay_two (f a x y : Nat) (ha : a + 1 < 65536) : lay (bas f) a [x, y] a = x ∧ lay (bas f) a [x, y] (a + 1) = y := by
 refine ⟨?_, ?_⟩
 ·rw [lay_at _ _ _ _ (by omega) (by omega) (by simp), show (a + 65536 - a) % 65536 = 0 by omega]; rfl
 ·rw [lay_at _ _ _ _ (by omega) (by omega) (by simp), show (a + 1 + 65536 - a) % 65536 = 1 by omega]; rfl
theorem do_ldA (s : Cs) : s.perform 62 = s.next.setOne 7 s.nextV ∧ s.performC 62 = 7 := ⟨rfl, rfl⟩
theorem alive_step (u : U) (h0 : u.m 100 = 62) (h1 : u.m 101 = 5) : stepR rgP u = rgQ ∧ stepN rgP u = 7 := by
 obtain ⟨s, hr, hu, -, e1, -, e3⟩ := step_begin rgP u 62 h0 rfl
 obtain ⟨d1, d2⟩ := do_ldA s
 have e4 : s.nextV = 5 := by
  show s.u.m s.r.pc = 5
  rw [hu, hr]; exact h1
 rw [d1, e4] at e1
 rw [d2] at e3
 refine ⟨?_, e3⟩
 rw [e1]
 show { s.r with pc := up1 s.r.pc, a := 5 } = rgQ
 rw [hr]
 rfl
theorem step_alive (hT : Hid (Tabs W0)) (h : Hid (Bx W0 w b ⟨lay (bas 0) 100 [62, 5], []⟩ l (n + 6))) :
  CX 9 #[rgP.v, .iface 29 (.pointer (some ⟨b, 0, none⟩))] w (.tuple #[rgQ.v, .int .i64 7]) fun w' => ∃ u, Hid (Bx W0 w' b u l n) := by
 obtain ⟨h0, h1⟩ := lay_two 0 100 62 5 (by decide)
 obtain ⟨e1, e2⟩ := alive_step ⟨lay (bas 0) 100 [62, 5], []⟩ h0 h1
 refine (step_any hT rgP _ rgP_fits h).mono fun e w' ⟨he, _, hb⟩ => ⟨?_, _, hb⟩
 rw [he]
 have e1' : (Cs.step ⟨rgP, 0, ⟨lay (bas 0) 100 [62, 5], []⟩⟩).r = rgQ := e1
 have e2' : Cs.stepC ⟨rgP, 0, ⟨lay (bas 0) 100 [62, 5], []⟩⟩ = 7 := e2
 rw [e1', e2']
 rfl
theorem build_P (w : World) : (Instr.build 25 #[(12, .int .u16 100)]).run Tryz.prog w = .ok rgP.v w := by kernel_rfl
theorem same_Q (w : World) : (Op.equalIn 10000 25 (.agg (rgQ).cells.toArray) (.agg #[.int .u8 5, .int .u8 0, .int .u8 0, .int .u8 0, .int .u8 0, .int .u8 0, .int .u8 0, .int .u8 0, .int .u8 0, .int .u8 0, .int .u8 0, .int .u8 0, .int .u8 0, .int .u8 0, .int .u8 0, .int .u8 0, .int .u16 0, .int .u16 0, .int .u16 0, .int .u16 102, .int .u16 0, .int .u8 0, .int .u8 1, .int .u8 0, .int .u8 0, .bool false, .bool false, .bool false, .bool false])).run Tryz.prog w = .ok true w := Rg.same rgQ w
theorem cpuAlive_any (w : World) (hT : Tabs w) : CB 5 #[] w (.bool true) := by
 have HT := Lib.hid hT
 clear hT
 have ES := same_Q
 have HM := Lib.hid (Own.start w)
 go_enter Tryz.func5, Tryz.ntmps5
 go_upto_region 2 with (first | ((with_reducible apply own_made (cs := [.int .u8 62, .int .u8 5]) (e := 5) (n := 2) HM); exact rfl; exact box_alive_made; (focus (go_simp; done)); exact rfl; clear HM; intro w' g' HM) | ((with_reducible apply own_built1 build_P); exact rfl; exact rfl; exact rfl) | (go_at_call 7; (with_reducible refine (box_alive HM).mono ?_); rintro e w' ⟨b, rfl, hB⟩; obtain ⟨hg, X, hX, hO⟩ := hB.out; simp only [List.cons_append, List.nil_append] at hO; have HG := Lib.hid hg; have HX := Lib.hid hX; have HM' := Lib.hid hO; clear hg hX hO hB HM; have HM := HM'; clear HM') | (go_at_call 9; have hbx : Hid (Bx _ _ b _ [_] _) := Lib.hid ⟨HG.out, X, HX.out, HM.out⟩; (with_reducible refine (step_alive HT hbx).mono ?_); clear hbx; rintro e w' ⟨rfl, u, hB⟩; obtain ⟨hg, X', hX, hO⟩ := hB.out; simp only [List.cons_append, List.nil_append] at hO; have HG' := Lib.hid hg; have HX' := Lib.hid hX; have HM' := Lib.hid hO; clear hg hX hO hB; clear HM HG HX; have HM := HM'; have HG := HG'; have HX := HX'; clear HM' HG' HX') | (refine a12 ?_; clear HM; intro w' g' HM) | (refine a7 ?_; clear HM; intro w' HM))
 exact k1
theorem Bx.hid2 {u : U} {e e' : Nat × TypeId × List Value} (h : Bx W0 w b u [e, e'] n) : ∃ _ : Hid (u.Good n), ∃ X, ∃ _ : Hid (IsBox X b u), Hid (Own W0 w (e :: e' :: X)) := by
 obtain ⟨hg, X, hX, hO⟩ := h
 exact ⟨hg, X, hX, hO⟩
def IsFlat (X : Blocks) (b : Nat) (u : U) : Prop :=
 ∃ gm lv R av Ra na xs, X = (b, 43, [.slice (some ⟨gm, 0, none⟩) 65536 65536, .pointer none, lv, .bool false, .int .u8 0, av]) :: (gm, 5, mcells u.m) :: (R ++ Ra) ∧ RowOf 3 1 R lv u.g.length (i64s u.g) ∧ (na ≤ u.g.length ∧ RowOf 155 4 Ra av na xs)
structure Fx (W0 w : World) (b : Nat) (u : U) (l : Blocks) (n : Nat) : Prop where
 good : u.Good n
 own : ∃ X, IsFlat X b u ∧ Own W0 w (l ++ X)
section
variable {W0 w w' : World} {b n k : Nat} {u : U} {l l' : Blocks}
theorem Fx.perm (h : Fx W0 w b u l n) (hp : l.Perm l') : Fx W0 w b u l' n := by
 obtain ⟨hg, X, hX, hO⟩ := h
 exact ⟨hg, X, hX, hO.perm (hp.append_right X)⟩
theorem Fx.less (h : Fx W0 w b u l n) (hk : k ≤ n) : Fx W0 w b u l k := ⟨h.good.less hk, h.own⟩
theorem Fx.call (h : Fx W0 w b u l n) (hb : Below w.heap.size w w') : Fx W0 w' b u l n := by
 obtain ⟨hg, X, hX, hO⟩ := h
 exact ⟨hg, X, hX, hO.call hb⟩
theorem Fx.drop {e : Nat × TypeId × List Value} (h : Fx W0 w b u (e :: l) n) : Fx W0 w b u l n := by
 obtain ⟨hg, X, hX, hO⟩ := h
 exact ⟨hg, X, hX, hO.forget⟩
end
theorem Fx.out {m : Nat → Nat} {g : List Int} (h : Fx W0 w b ⟨m, g⟩ l (n + 1)) :
  (∀ i, m i < 256) ∧ g.length + 1 + n ≤ 1000000 ∧ ∃ gm lv R N av Ra na xs, N = 65536 ∧ RowOf 3 1 R lv g.length (i64s g) ∧ (na ≤ g.length ∧ RowOf 155 4 Ra av na xs) ∧ Own W0 w ((b, 43, [.slice (some ⟨gm, 0, none⟩) N N, .pointer none, lv, .bool false, .int .u8 0, av]) :: (gm, 5, mcells m) :: (R ++ (Ra ++ l))) := by
 obtain ⟨⟨h8, hl⟩, X, ⟨gm, lv, R, av, Ra, na, xs, rfl, hR, hA⟩, hO⟩ := h
 have hl' : g.length + (n + 1) ≤ 1000000 := hl
 refine ⟨h8, by omega, gm, lv, R, 65536, av, Ra, na, xs, rfl, hR, hA, hO.perm ?_⟩
 refine List.perm_append_comm.trans ?_
 simp only [List.cons_append, List.append_assoc]
 exact .refl _
theorem Fx.back {b n gm N na : Nat} {m : Nat → Nat} {g : List Int} {l R Ra : Blocks} {lv av : Value} {xs : List Value} (h8 : ∀ i, m i < 256) (hl : g.length + n ≤ 1000000) (hN : N = 65536) (hR : RowOf 3 1 R lv g.length (i64s g)) (hA : na ≤ g.length ∧ RowOf 155 4 Ra av na xs)
  (h : Own W0 w ((b, 43, [.slice (some ⟨gm, 0, none⟩) N N, .pointer none, lv, .bool false, .int .u8 0, av]) :: (gm, 5, mcells m) :: ((Ra ++ l) ++ R))) : Fx W0 w b ⟨m, g⟩ l n := by
 subst hN
 refine ⟨⟨h8, hl⟩, _, ⟨gm, lv, R, av, Ra, na, xs, rfl, hR, hA⟩, h.perm ?_⟩
 refine List.Perm.trans ?_ List.perm_append_comm
 simp only [List.cons_append]
 refine .cons _ (.cons _ ?_)
 exact List.perm_append_comm.trans (by rw [List.append_assoc])
theorem ask_more {na : Nat} {g : List Int} {x : Int} {p : Prop} (h : na ≤ g.length ∧ p) : na ≤ (g ++ [x]).length ∧ p := ⟨by rw [List.length_append]; exact Nat.le_add_right_of_le h.1, h.2⟩
theorem slice_some {g n : Nat} (w : World) : (binOp .neq 26 (.slice (some ⟨g, 0, none⟩) n n) (.slice none 0 0)).run Tryz.prog w = .ok (.bool true) w := by kernel_rfl
theorem flat_read {u : U} (a : Nat) (ha : a < 65536) (h : Hid (Fx W0 w b u l (n + 1))) :
  CX 36 #[.pointer (some ⟨b, 0, none⟩), .int .u16 (a : Int)] w (.int .u8 (u.m a : Int)) fun w' => Hid (Fx W0 w' b (u.rd a) l n) := by
 obtain ⟨m, g⟩ := u
 obtain ⟨h8, hl, gm, lv, R, N, av, Ra, na, xs, hN, hR, hAs, hO⟩ := h.out.out
 have H8 := Lib.hid h8
 have HR := Lib.hid hR
 have HAS := Lib.hid hAs
 have HM := Lib.hid hO
 have HNN := Lib.hid hN
 have HN : Hid (g.length + 1 ≤ 1000000) := Lib.hid (by omega)
 have HL := Lib.hid hl
 have hsn := @slice_some gm N
 have HA := Lib.hid ha
 have ha2 : (a : Int) < 65536 := by omega
 have ha4 : (a : Int) < (N : Int) := by omega
 clear ha
 clear h h8 hR hO hl hN hAs
 have tg1 : Hid True := trivial
 go_enter Tryz.func36, Tryz.ntmps36
 go_wp2_with (first | (refine a0 ?_; (first | (clear tg1 HM; intro w' g1 HM) | (clear HM; intro w' g' HM))) | refine b11 ?_ | (refine a56 ?_; clear HM; intro w' HM) | (refine a63 ?_; clear tg1; intro w' g1 HM'; clear HM; have HM := HM'; clear HM') | (refine own_log (x := (a : Int)) (L := _ :: _ :: (Ra ++ l)) HM (((List.perm_append_comm.cons _).cons _).cons _) HR HN rfl rfl rfl rfl ?_; intro gg cap w1 R1 HR' HM'; clear HM HR; have HM : Hid (Own W0 w1 (_ :: _ :: ((Ra ++ l) ++ R1))) := HM'; have HR := HR'; clear HM' HR'))
 go_ret
 exact ⟨rfl, Fx.back H8.out (n := n) (len_app HL.out) HNN.out HR.out (ask_more HAS.out) HM.out⟩
theorem flat_write {u : U} (a v : Nat) (ha : a < 65536) (hv : v < 256) (h : Hid (Fx W0 w b u l (n + 1))) :
  CX 59 #[.pointer (some ⟨b, 0, none⟩), .int .u16 (a : Int), .int .u8 (v : Int)] w (.tuple #[]) fun w' => Hid (Fx W0 w' b (u.wr a v) l n) := by
 obtain ⟨m, g⟩ := u
 obtain ⟨h8, hl, gm, lv, R, N, av, Ra, na, xs, hN, hR, hAs, hO⟩ := h.out.out
 have H8 := Lib.hid h8
 have HR := Lib.hid hR
 have HAS := Lib.hid hAs
 have HM := Lib.hid hO
 have HNN := Lib.hid hN
 have HN : Hid (g.length + 1 ≤ 1000000) := Lib.hid (by omega)
 have HL := Lib.hid hl
 have hsn := @slice_some gm N
 have HA := Lib.hid ha
 have ha2 : (a : Int) < 65536 := by omega
 have ha4 : (a : Int) < (N : Int) := by omega
 clear ha
 have HV := Lib.hid hv
 have hv2 : (v : Int) < 256 := by omega
 clear hv
 clear h h8 hR hO hl hN hAs
 have tg1 : Hid True := trivial
 go_enter Tryz.func59, Tryz.ntmps59
 go_upto_region 1 with (first | (refine a0 ?_; (first | (clear tg1 HM; intro w' g1 HM) | (clear HM; intro w' g' HM))) | refine a55 ?_ | (refine a56 ?_; clear HM; intro w' HM) | (refine a54 ?_; clear tg1; intro w' g1 HM'; clear HM; have HM := HM'; clear HM') | (refine own_log (x := (1000000 + (a : Int) * 256 + (v : Int))) (L := _ :: _ :: (Ra ++ l)) HM (((List.perm_append_comm.cons _).cons _).cons _) HR HN rfl rfl rfl rfl ?_; intro gg cap w1 R1 HR' HM'; clear HM HR; have HM : Hid (Own W0 w1 (_ :: _ :: ((Ra ++ l) ++ R1))) := HM'; have HR := HR'; clear HM' HR') | ((with_reducible apply own_put HM (v := .int .u8 (v : Int)) (cs := mcells m)); exact rfl; exact rfl; exact rfl; exact .s .z; exact .s .z; exact oneU8.size; exact rfl; exact rfl; (rw [mcells_length]; exact HA.out); exact rfl; clear HM; intro w' HM))
 clear ha2
 go_wp2_with (first | (refine a0 ?_; (first | (clear tg1 HM; intro w' g1 HM) | (clear HM; intro w' g' HM))) | refine a55 ?_ | (refine a56 ?_; clear HM; intro w' HM) | (refine a54 ?_; clear tg1; intro w' g1 HM'; clear HM; have HM := HM'; clear HM') | (refine own_log (x := (1000000 + (a : Int) * 256 + (v : Int))) (L := _ :: _ :: (Ra ++ l)) HM (((List.perm_append_comm.cons _).cons _).cons _) HR HN rfl rfl rfl rfl ?_; intro gg cap w1 R1 HR' HM'; clear HM HR; have HM : Hid (Own W0 w1 (_ :: _ :: ((Ra ++ l) ++ R1))) := HM'; have HR := HR'; clear HM' HR') | ((with_reducible apply own_put HM (v := .int .u8 (v : Int)) (cs := mcells m)); exact rfl; exact rfl; exact rfl; exact .s .z; exact .s .z; exact oneU8.size; exact rfl; exact rfl; (rw [mcells_length]; exact HA.out); exact rfl; clear HM; intro w' HM))
 (try simp only [Exit.inBlock, Exit.then])
 refine bodyPost_ret (results_none rfl _ _ _) rfl ?_
 exact ⟨rfl, Fx.back (upd_lt H8.out a v HV.out) (n := n) (len_app HL.out) HNN.out HR.out (ask_more HAS.out) (mcells_set m a v ▸ HM.out)⟩
theorem rget_A (r : Rg) (hb : r.a < 256) (w : World) : CB 43 #[r.v, .string ⟨#[65]⟩] w (.int .i64 (r.a : Int)) := by
 have hb1 : (r.a : Int) < 256 := by omega
 exact k8
theorem rget_F (r : Rg) (hb : r.f < 256) (w : World) : CB 43 #[r.v, .string ⟨#[70]⟩] w (.int .i64 (r.f : Int)) := by
 have hb1 : (r.f : Int) < 256 := by omega
 exact k8
theorem rget_B (r : Rg) (hb : r.b < 256) (w : World) : CB 43 #[r.v, .string ⟨#[66]⟩] w (.int .i64 (r.b : Int)) := by
 have hb1 : (r.b : Int) < 256 := by omega
 exact k8
theorem rget_C (r : Rg) (hb : r.c < 256) (w : World) : CB 43 #[r.v, .string ⟨#[67]⟩] w (.int .i64 (r.c : Int)) := by
 have hb1 : (r.c : Int) < 256 := by omega
 exact k8
theorem rget_D (r : Rg) (hb : r.d < 256) (w : World) : CB 43 #[r.v, .string ⟨#[68]⟩] w (.int .i64 (r.d : Int)) := by
 have hb1 : (r.d : Int) < 256 := by omega
 exact k8
theorem rget_E (r : Rg) (hb : r.e < 256) (w : World) : CB 43 #[r.v, .string ⟨#[69]⟩] w (.int .i64 (r.e : Int)) := by
 have hb1 : (r.e : Int) < 256 := by omega
 exact k8
theorem rget_H (r : Rg) (hb : r.h < 256) (w : World) : CB 43 #[r.v, .string ⟨#[72]⟩] w (.int .i64 (r.h : Int)) := by
 have hb1 : (r.h : Int) < 256 := by omega
 exact k8
theorem rget_L (r : Rg) (hb : r.l < 256) (w : World) : CB 43 #[r.v, .string ⟨#[76]⟩] w (.int .i64 (r.l : Int)) := by
 have hb1 : (r.l : Int) < 256 := by omega
 exact k8
theorem rget_IX (r : Rg) (hb : r.ix < 65536) (w : World) : CB 43 #[r.v, .string ⟨#[73, 88]⟩] w (.int .i64 (r.ix : Int)) := by
 have hb1 : (r.ix : Int) < 65536 := by omega
 exact k8
theorem rget_IY (r : Rg) (hb : r.iy < 65536) (w : World) : CB 43 #[r.v, .string ⟨#[73, 89]⟩] w (.int .i64 (r.iy : Int)) := by
 have hb1 : (r.iy : Int) < 65536 := by omega
 exact k8
theorem rget_SP (r : Rg) (hb : r.sp < 65536) (w : World) : CB 43 #[r.v, .string ⟨#[83, 80]⟩] w (.int .i64 (r.sp : Int)) := by
 have hb1 : (r.sp : Int) < 65536 := by omega
 exact k8
theorem rget_IXH (r : Rg) (hb : r.ix < 65536) (w : World) : CB 43 #[r.v, .string ⟨#[73, 88, 72]⟩] w (.int .i64 ((r.ix / 256 : Nat) : Int)) := by
 have hb1 : (r.ix : Int) < 65536 := by omega
 have HM := Lib.hid (Own.start w)
 go_enter Tryz.func43, Tryz.ntmps43
 go_wp2_with (first | (refine a0 ?_; clear HM; intro w' g' HM) | refine a13 ?_)
 go_ret
 exact ⟨congrArg (fun z : Int => (Ending.returned (.int .i64 z) : Ending)) (show (r.ix : Int) / 256 = ((r.ix / 256 : Nat) : Int) by omega), Own.fin HM⟩
theorem rget_IXL (r : Rg) (hb : r.ix < 65536) (w : World) : CB 43 #[r.v, .string ⟨#[73, 88, 76]⟩] w (.int .i64 ((r.ix % 256 : Nat) : Int)) := by
 have hb1 : (r.ix : Int) < 65536 := by omega
 have HM := Lib.hid (Own.start w)
 go_enter Tryz.func43, Tryz.ntmps43
 go_wp2_with (first | (refine a0 ?_; clear HM; intro w' g' HM) | refine a13 ?_)
 go_ret
 exact ⟨congrArg (fun z : Int => (Ending.returned (.int .i64 z) : Ending)) (show (r.ix : Int) % 256 = ((r.ix % 256 : Nat) : Int) by omega), Own.fin HM⟩
theorem rget_IYH (r : Rg) (hb : r.iy < 65536) (w : World) : CB 43 #[r.v, .string ⟨#[73, 89, 72]⟩] w (.int .i64 ((r.iy / 256 : Nat) : Int)) := by
 have hb1 : (r.iy : Int) < 65536 := by omega
 have HM := Lib.hid (Own.start w)
 go_enter Tryz.func43, Tryz.ntmps43
 go_wp2_with (first | (refine a0 ?_; clear HM; intro w' g' HM) | refine a13 ?_)
 go_ret
 exact ⟨congrArg (fun z : Int => (Ending.returned (.int .i64 z) : Ending)) (show (r.iy : Int) / 256 = ((r.iy / 256 : Nat) : Int) by omega), Own.fin HM⟩
theorem rget_IYL (r : Rg) (hb : r.iy < 65536) (w : World) : CB 43 #[r.v, .string ⟨#[73, 89, 76]⟩] w (.int .i64 ((r.iy % 256 : Nat) : Int)) := by
 have hb1 : (r.iy : Int) < 65536 := by omega
 have HM := Lib.hid (Own.start w)
 go_enter Tryz.func43, Tryz.ntmps43
 go_wp2_with (first | (refine a0 ?_; clear HM; intro w' g' HM) | refine a13 ?_)
 go_ret
 exact ⟨congrArg (fun z : Int => (Ending.returned (.int .i64 z) : Ending)) (show (r.iy : Int) % 256 = ((r.iy % 256 : Nat) : Int) by omega), Own.fin HM⟩
theorem rset_A (r : Rg) (v : Nat) (hv : v < 256) (w : World) : CB 99 #[r.v, .string ⟨#[65]⟩, .int .i64 (v : Int)] w (({ r with a := v } : Rg).v) := by
 have hv1 : (v : Int) % 256 = (v : Int) := by omega
 have hv2 : (v : Int) < 256 := by omega
 clear hv
 have HM := Lib.hid (Own.start w)
 go_enter Tryz.func99, Tryz.ntmps99
 go_wp2_with (first | (refine b0 ?_; clear HM; intro w' g' HM) | refine a6 ?_ | (refine b1 ?_; clear HM; intro w' HM))
 refine bodyPost_ret (v := .agg (r.cells.set 0 (.int .u8 (v : Int))).toArray) (own_results HM Tryz.results99 _ rfl (by first | exact .z | exact .s .z) aggR) rfl ⟨rfl, Own.fin HM⟩
theorem rset_F (r : Rg) (v : Nat) (hv : v < 256) (w : World) : CB 99 #[r.v, .string ⟨#[70]⟩, .int .i64 (v : Int)] w (({ r with f := v } : Rg).v) := by
 have hv1 : (v : Int) % 256 = (v : Int) := by omega
 have hv2 : (v : Int) < 256 := by omega
 clear hv
 have HM := Lib.hid (Own.start w)
 go_enter Tryz.func99, Tryz.ntmps99
 go_wp2_with (first | (refine b0 ?_; clear HM; intro w' g' HM) | refine a6 ?_ | (refine b1 ?_; clear HM; intro w' HM))
 refine bodyPost_ret (v := .agg (r.cells.set 1 (.int .u8 (v : Int))).toArray) (own_results HM Tryz.results99 _ rfl (by first | exact .z | exact .s .z) aggR) rfl ⟨rfl, Own.fin HM⟩
theorem rset_B (r : Rg) (v : Nat) (hv : v < 256) (w : World) : CB 99 #[r.v, .string ⟨#[66]⟩, .int .i64 (v : Int)] w (({ r with b := v } : Rg).v) := by
 have hv1 : (v : Int) % 256 = (v : Int) := by omega
 have hv2 : (v : Int) < 256 := by omega
 clear hv
 have HM := Lib.hid (Own.start w)
 go_enter Tryz.func99, Tryz.ntmps99
 go_wp2_with (first | (refine b0 ?_; clear HM; intro w' g' HM) | refine a6 ?_ | (refine b1 ?_; clear HM; intro w' HM))
 refine bodyPost_ret (v := .agg (r.cells.set 2 (.int .u8 (v : Int))).toArray) (own_results HM Tryz.results99 _ rfl (by first | exact .z | exact .s .z) aggR) rfl ⟨rfl, Own.fin HM⟩
theorem rset_C (r : Rg) (v : Nat) (hv : v < 256) (w : World) : CB 99 #[r.v, .string ⟨#[67]⟩, .int .i64 (v : Int)] w (({ r with c := v } : Rg).v) := by
 have hv1 : (v : Int) % 256 = (v : Int) := by omega
 have hv2 : (v : Int) < 256 := by omega
 clear hv
 have HM := Lib.hid (Own.start w)
 go_enter Tryz.func99, Tryz.ntmps99
 go_wp2_with (first | (refine b0 ?_; clear HM; intro w' g' HM) | refine a6 ?_ | (refine b1 ?_; clear HM; intro w' HM))
 refine bodyPost_ret (v := .agg (r.cells.set 3 (.int .u8 (v : Int))).toArray) (own_results HM Tryz.results99 _ rfl (by first | exact .z | exact .s .z) aggR) rfl ⟨rfl, Own.fin HM⟩
theorem rset_D (r : Rg) (v : Nat) (hv : v < 256) (w : World) : CB 99 #[r.v, .string ⟨#[68]⟩, .int .i64 (v : Int)] w (({ r with d := v } : Rg).v) := by
 have hv1 : (v : Int) % 256 = (v : Int) := by omega
 have hv2 : (v : Int) < 256 := by omega
 clear hv
 have HM := Lib.hid (Own.start w)
 go_enter Tryz.func99, Tryz.ntmps99
 go_wp2_with (first | (refine b0 ?_; clear HM; intro w' g' HM) | refine a6 ?_ | (refine b1 ?_; clear HM; intro w' HM))
 refine bodyPost_ret (v := .agg (r.cells.set 4 (.int .u8 (v : Int))).toArray) (own_results HM Tryz.results99 _ rfl (by first | exact .z | exact .s .z) aggR) rfl ⟨rfl, Own.fin HM⟩
theorem rset_E (r : Rg) (v : Nat) (hv : v < 256) (w : World) : CB 99 #[r.v, .string ⟨#[69]⟩, .int .i64 (v : Int)] w (({ r with e := v } : Rg).v) := by
 have hv1 : (v : Int) % 256 = (v : Int) := by omega
 have hv2 : (v : Int) < 256 := by omega
 clear hv
 have HM := Lib.hid (Own.start w)
 go_enter Tryz.func99, Tryz.ntmps99
 go_wp2_with (first | (refine b0 ?_; clear HM; intro w' g' HM) | refine a6 ?_ | (refine b1 ?_; clear HM; intro w' HM))
 refine bodyPost_ret (v := .agg (r.cells.set 5 (.int .u8 (v : Int))).toArray) (own_results HM Tryz.results99 _ rfl (by first | exact .z | exact .s .z) aggR) rfl ⟨rfl, Own.fin HM⟩
theorem rset_H (r : Rg) (v : Nat) (hv : v < 256) (w : World) : CB 99 #[r.v, .string ⟨#[72]⟩, .int .i64 (v : Int)] w (({ r with h := v } : Rg).v) := by
 have hv1 : (v : Int) % 256 = (v : Int) := by omega
 have hv2 : (v : Int) < 256 := by omega
 clear hv
 have HM := Lib.hid (Own.start w)
 go_enter Tryz.func99, Tryz.ntmps99
 go_wp2_with (first | (refine b0 ?_; clear HM; intro w' g' HM) | refine a6 ?_ | (refine b1 ?_; clear HM; intro w' HM))
 refine bodyPost_ret (v := .agg (r.cells.set 6 (.int .u8 (v : Int))).toArray) (own_results HM Tryz.results99 _ rfl (by first | exact .z | exact .s .z) aggR) rfl ⟨rfl, Own.fin HM⟩
theorem rset_L (r : Rg) (v : Nat) (hv : v < 256) (w : World) : CB 99 #[r.v, .string ⟨#[76]⟩, .int .i64 (v : Int)] w (({ r with l := v } : Rg).v) := by
 have hv1 : (v : Int) % 256 = (v : Int) := by omega
 have hv2 : (v : Int) < 256 := by omega
 clear hv
 have HM := Lib.hid (Own.start w)
 go_enter Tryz.func99, Tryz.ntmps99
 go_wp2_with (first | (refine b0 ?_; clear HM; intro w' g' HM) | refine a6 ?_ | (refine b1 ?_; clear HM; intro w' HM))
 refine bodyPost_ret (v := .agg (r.cells.set 7 (.int .u8 (v : Int))).toArray) (own_results HM Tryz.results99 _ rfl (by first | exact .z | exact .s .z) aggR) rfl ⟨rfl, Own.fin HM⟩
theorem rset_IX (r : Rg) (v : Nat) (hv : v < 65536) (w : World) : CB 99 #[r.v, .string ⟨#[73, 88]⟩, .int .i64 (v : Int)] w (({ r with ix := v } : Rg).v) := by
 have hv1 : (v : Int) % 65536 = (v : Int) := by omega
 have hv2 : (v : Int) < 65536 := by omega
 clear hv
 have HM := Lib.hid (Own.start w)
 go_enter Tryz.func99, Tryz.ntmps99
 go_wp2_with (first | (refine b0 ?_; clear HM; intro w' g' HM) | refine a6 ?_ | (refine b1 ?_; clear HM; intro w' HM))
 refine bodyPost_ret (v := .agg (r.cells.set 16 (.int .u16 (v : Int))).toArray) (own_results HM Tryz.results99 _ rfl (by first | exact .z | exact .s .z) aggR) rfl ⟨rfl, Own.fin HM⟩
theorem rset_IY (r : Rg) (v : Nat) (hv : v < 65536) (w : World) : CB 99 #[r.v, .string ⟨#[73, 89]⟩, .int .i64 (v : Int)] w (({ r with iy := v } : Rg).v) := by
 have hv1 : (v : Int) % 65536 = (v : Int) := by omega
 have hv2 : (v : Int) < 65536 := by omega
 clear hv
 have HM := Lib.hid (Own.start w)
 go_enter Tryz.func99, Tryz.ntmps99
 go_wp2_with (first | (refine b0 ?_; clear HM; intro w' g' HM) | refine a6 ?_ | (refine b1 ?_; clear HM; intro w' HM))
 refine bodyPost_ret (v := .agg (r.cells.set 17 (.int .u16 (v : Int))).toArray) (own_results HM Tryz.results99 _ rfl (by first | exact .z | exact .s .z) aggR) rfl ⟨rfl, Own.fin HM⟩
theorem rset_SP (r : Rg) (v : Nat) (hv : v < 65536) (w : World) : CB 99 #[r.v, .string ⟨#[83, 80]⟩, .int .i64 (v : Int)] w (({ r with sp := v } : Rg).v) := by
 have hv1 : (v : Int) % 65536 = (v : Int) := by omega
 have hv2 : (v : Int) < 65536 := by omega
 clear hv
 have HM := Lib.hid (Own.start w)
 go_enter Tryz.func99, Tryz.ntmps99
 go_wp2_with (first | (refine b0 ?_; clear HM; intro w' g' HM) | refine a6 ?_ | (refine b1 ?_; clear HM; intro w' HM))
 refine bodyPost_ret (v := .agg (r.cells.set 18 (.int .u16 (v : Int))).toArray) (own_results HM Tryz.results99 _ rfl (by first | exact .z | exact .s .z) aggR) rfl ⟨rfl, Own.fin HM⟩
theorem k34 {P : Prop} (h : P := by
 clear hJ hv hb
 have HM := Lib.hid (Own.start w)
 go_enter Tryz.func99, Tryz.ntmps99
 go_wp2_with (first | (refine b0 ?_; clear HM; intro w' g' HM) | refine b12 ?_ | (refine b1 ?_; clear HM; intro w' HM))
 refine bodyPost_ret (v := .agg (r.cells.set 16 (.int .u16 (J : Int))).toArray) (own_results HM Tryz.results99 _ rfl (by first | exact .z | exact .s .z) aggR) rfl ⟨rfl, Own.fin HM⟩) : P := h
theorem rset_IXH (r : Rg) (hb : r.ix < 65536) (v : Nat) (hv : v < 256) (w : World) : CB 99 #[r.v, .string ⟨#[73, 88, 72]⟩, .int .i64 (v : Int)] w (({ r with ix := v * 256 + r.ix % 256 } : Rg).v) := by
 have hb1 : (r.ix : Int) < 65536 := by omega
 have hv1 : (v : Int) % 256 = (v : Int) := by omega
 have hv2 : (v : Int) < 256 := by omega
 obtain ⟨J, hJ⟩ : ∃ J, J = v * 256 + r.ix % 256 := ⟨_, rfl⟩
 rw [← hJ]
 have J1 : (J : Int) < 65536 := by omega
 have e1 : (v : Int) * 256 + (r.ix : Int) % 256 = (J : Int) := by omega
 exact k34
theorem rset_IXL (r : Rg) (hb : r.ix < 65536) (v : Nat) (hv : v < 256) (w : World) : CB 99 #[r.v, .string ⟨#[73, 88, 76]⟩, .int .i64 (v : Int)] w (({ r with ix := r.ix / 256 * 256 + v } : Rg).v) := by
 have hb1 : (r.ix : Int) < 65536 := by omega
 have hv1 : (v : Int) % 256 = (v : Int) := by omega
 have hv2 : (v : Int) < 256 := by omega
 obtain ⟨J, hJ⟩ : ∃ J, J = r.ix / 256 * 256 + v := ⟨_, rfl⟩
 rw [← hJ]
 have J1 : (J : Int) < 65536 := by omega
 have e1 : (r.ix : Int) / 256 * 256 + (v : Int) = (J : Int) := by omega
 exact k34
theorem k35 {P : Prop} (h : P := by
 clear hJ hv hb
 have HM := Lib.hid (Own.start w)
 go_enter Tryz.func99, Tryz.ntmps99
 go_wp2_with (first | (refine b0 ?_; clear HM; intro w' g' HM) | refine b12 ?_ | (refine b1 ?_; clear HM; intro w' HM))
 refine bodyPost_ret (v := .agg (r.cells.set 17 (.int .u16 (J : Int))).toArray) (own_results HM Tryz.results99 _ rfl (by first | exact .z | exact .s .z) aggR) rfl ⟨rfl, Own.fin HM⟩) : P := h
theorem rset_IYH (r : Rg) (hb : r.iy < 65536) (v : Nat) (hv : v < 256) (w : World) : CB 99 #[r.v, .string ⟨#[73, 89, 72]⟩, .int .i64 (v : Int)] w (({ r with iy := v * 256 + r.iy % 256 } : Rg).v) := by
 have hb1 : (r.iy : Int) < 65536 := by omega
 have hv1 : (v : Int) % 256 = (v : Int) := by omega
 have hv2 : (v : Int) < 256 := by omega
 obtain ⟨J, hJ⟩ : ∃ J, J = v * 256 + r.iy % 256 := ⟨_, rfl⟩
 rw [← hJ]
 have J1 : (J : Int) < 65536 := by omega
 have e1 : (v : Int) * 256 + (r.iy : Int) % 256 = (J : Int) := by omega
 exact k35
theorem rset_IYL (r : Rg) (hb : r.iy < 65536) (v : Nat) (hv : v < 256) (w : World) : CB 99 #[r.v, .string ⟨#[73, 89, 76]⟩, .int .i64 (v : Int)] w (({ r with iy := r.iy / 256 * 256 + v } : Rg).v) := by
 have hb1 : (r.iy : Int) < 65536 := by omega
 have hv1 : (v : Int) % 256 = (v : Int) := by omega
 have hv2 : (v : Int) < 256 := by omega
 obtain ⟨J, hJ⟩ : ∃ J, J = r.iy / 256 * 256 + v := ⟨_, rfl⟩
 rw [← hJ]
 have J1 : (J : Int) < 65536 := by omega
 have e1 : (r.iy : Int) / 256 * 256 + (v : Int) = (J : Int) := by omega
 exact k35
end
end Go.Proofs.YtgdeeiimkhjfiaaGreatDoor
