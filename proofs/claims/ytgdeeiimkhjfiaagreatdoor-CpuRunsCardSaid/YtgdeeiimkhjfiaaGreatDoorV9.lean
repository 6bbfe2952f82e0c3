import Derived.Test.YtgdeeiimkhjfiaaGreatDoorV8
set_option maxRecDepth 100000
set_option maxHeartbeats 6400000
namespace Go.Proofs.YtgdeeiimkhjfiaaGreatDoor
open Go.RowKit
section
variable {W0 w : World} {x b tq n c : Nat} {s : Cs} {ix : Bool} {pg : Int} {l : Zj}
theorem ZbY (y q : Nat) (h : Hid (Co W0 w c b s l (n + 4))) :
  CX 142 #[.pointer (some ⟨c, 0, none⟩), .agg #[.int .i64 0, .int .i64 (y : Int), .int .i64 2, .int .i64 0, .int .i64 (q : Int)]] w (.int .i64 7) fun w' => Hid (Co W0 w' c b (s.moveA q (s.pair 0)) l n) := by
 obtain ⟨X, hf, HF, HG, HX, HM⟩ := h.out.hif
 have HF0 := HF
 have hg := HG.out
 have hX := HX.out
 have hO := HM.out
 have p1 : s.pair 0 < 65536 := Cs.pair_lt hf _
 clear h hf hg hX hO
 go_enter Tryz.func142, Tryz.ntmps142
 go_upto_region 4 with (first | refine b6 ?_ | (refine cP ?_; clear HM; intro w' HM) | (refine a4 ?_; clear HM; intro w' g' HM))
 (refine Zk 7 HM (by kernel_rfl) (by kernel_rfl) (by kernel_rfl) ?_; simp only [List.take_succ_cons, List.take_zero, List.drop_succ_cons, List.drop_zero]; (try simp only [Act.put, Ze, Zc, Zd]); repeat ((fail_if_success (with_reducible refine wpQuiet_nil ?_)); first | go_big_quiet_skip | (go_big_quiet_want; first | (refine a15 ?_; go_big_quiet_op; go_big_quiet_on) | (refine a16 ?_; go_big_quiet_op; go_big_quiet_on) | (refine a26 ?_; go_big_quiet_op; go_big_quiet_on) | (refine a24 ?_; go_big_quiet_op; go_big_quiet_on) | ((with_reducible apply Zh); exact fun w => rfl; (focus (go_simp; all_goals with_reducible rfl)); (intro wq HQ; first | (with_reducible exact ZB .z HQ HF.out _)); go_big_quiet_op; go_big_quiet_on) | (go_big_quiet_op; go_big_quiet_on) | (go_big_quiet_op; refine ⟨_, fun _ _ => rfl, ?_⟩; go_big_quiet_on))))
 refine wpQuiet_nil ?_
 intro w' HM'
 clear HM; have HM := HM'; clear HM'
 go_wp2_with (first | refine b6 ?_ | (refine cP ?_; clear HM; intro w' HM) | (refine a4 ?_; clear HM; intro w' g' HM) | (go_at_call 200; have hco := Za (l := _ :: l) HM HG HX; (with_reducible refine (UH (n := n + 3) q _ p1 hco).mono (Z2 ?_)); clear hco HM HF HG HX; intro w' X HF HG HX HM))
 go_ret
 have hco := Co.ok (l := _ :: l) HM.out HG.out HX.out
 exact ⟨rfl, Zb (hco.drop.less (by omega))⟩
theorem ZbZ (y q : Nat) (h : Hid (Co W0 w c b s l (n + 4))) :
  CX 142 #[.pointer (some ⟨c, 0, none⟩), .agg #[.int .i64 0, .int .i64 (y : Int), .int .i64 2, .int .i64 1, .int .i64 (q : Int)]] w (.int .i64 7) fun w' => Hid (Co W0 w' c b (s.moveA q (s.pair 1)) l n) := by
 obtain ⟨X, hf, HF, HG, HX, HM⟩ := h.out.hif
 have HF0 := HF
 have hg := HG.out
 have hX := HX.out
 have hO := HM.out
 have p1 : s.pair 1 < 65536 := Cs.pair_lt hf _
 clear h hf hg hX hO
 go_enter Tryz.func142, Tryz.ntmps142
 go_upto_region 4 with (first | refine b6 ?_ | (refine cP ?_; clear HM; intro w' HM) | (refine a4 ?_; clear HM; intro w' g' HM))
 (refine Zk 7 HM (by kernel_rfl) (by kernel_rfl) (by kernel_rfl) ?_; simp only [List.take_succ_cons, List.take_zero, List.drop_succ_cons, List.drop_zero]; (try simp only [Act.put, Ze, Zc, Zd]); repeat ((fail_if_success (with_reducible refine wpQuiet_nil ?_)); first | go_big_quiet_skip | (go_big_quiet_want; first | (refine a15 ?_; go_big_quiet_op; go_big_quiet_on) | (refine a16 ?_; go_big_quiet_op; go_big_quiet_on) | (refine a26 ?_; go_big_quiet_op; go_big_quiet_on) | (refine a24 ?_; go_big_quiet_op; go_big_quiet_on) | ((with_reducible apply Zh); exact fun w => rfl; (focus (go_simp; all_goals with_reducible rfl)); (intro wq HQ; first | (with_reducible exact ZB .z HQ HF.out _)); go_big_quiet_op; go_big_quiet_on) | (go_big_quiet_op; go_big_quiet_on) | (go_big_quiet_op; refine ⟨_, fun _ _ => rfl, ?_⟩; go_big_quiet_on))))
 refine wpQuiet_nil ?_
 intro w' HM'
 clear HM; have HM := HM'; clear HM'
 go_wp2_with (first | refine b6 ?_ | (refine cP ?_; clear HM; intro w' HM) | (refine a4 ?_; clear HM; intro w' g' HM) | (go_at_call 200; have hco := Za (l := _ :: l) HM HG HX; (with_reducible refine (UH (n := n + 3) q _ p1 hco).mono (Z2 ?_)); clear hco HM HF HG HX; intro w' X HF HG HX HM))
 go_ret
 have hco := Co.ok (l := _ :: l) HM.out HG.out HX.out
 exact ⟨rfl, Zb (hco.drop.less (by omega))⟩
theorem Zb0 (y q : Nat) (h : Hid (Co W0 w c b s l (n + 4))) :
  CX 142 #[.pointer (some ⟨c, 0, none⟩), .agg #[.int .i64 0, .int .i64 (y : Int), .int .i64 2, .int .i64 2, .int .i64 (q : Int)]] w (.int .i64 16) fun w' => Hid (Co W0 w' c b (s.movePair q 2) l n) := by
 obtain ⟨X, HF, HG, HX, HM⟩ := h.out.hid
 have HF0 := HF
 clear h
 go_enter Tryz.func142, Tryz.ntmps142
 go_wp2_with (first | refine b6 ?_ | (refine cP ?_; clear HM; intro w' HM) | (refine a4 ?_; clear HM; intro w' g' HM) | (go_at_call 122; have hco := Za (l := _ :: l) HM HG HX; (with_reducible refine (Vs q 2 hco).mono (Z2 ?_)); clear hco HM HF HG HX; intro w' X HF HG HX HM))
 go_ret
 have hco := Co.ok (l := _ :: l) HM.out HG.out HX.out
 exact ⟨rfl, Zb (hco.drop.less (by omega))⟩
theorem Zb1 (y q : Nat) (h : Hid (Co W0 w c b s l (n + 4))) :
  CX 142 #[.pointer (some ⟨c, 0, none⟩), .agg #[.int .i64 0, .int .i64 (y : Int), .int .i64 2, .int .i64 3, .int .i64 (q : Int)]] w (.int .i64 13) fun w' => Hid (Co W0 w' c b (s.nextNum.moveA q s.nextNumV) l n) := by
 obtain ⟨X, hf, HF, HG, HX, HM⟩ := h.out.hif
 have HF0 := HF
 have hg := HG.out
 have hX := HX.out
 have hO := HM.out
 have N1 : s.nextNumV < 65536 := Cs.numV_lt hf _
 clear h hf hg hX hO
 have tg1 : Hid True := trivial
 go_enter Tryz.func142, Tryz.ntmps142
 go_upto_region 9 with (first | refine b6 ?_ | (refine cP ?_; clear HM; intro w' HM) | (refine a4 ?_; clear tg1 HM; intro w' g1 HM))
 have HM' := Zb HM.out.drew
 clear HM; have HM := HM'; clear HM'
 have d1 := HM.out.cells_at (.s .z) 4 _ rfl
 go_region_held3 (fun w' => w'.cell? ⟨g1, 4, none⟩ = some (.int .i64 (q : Int))) (first | assumption | (simp only [*]; trivial) | simp [*]) (first | (go_at_call 140; have hco := Za (l := _ :: l) HM HG HX; (with_reducible refine (ZF (n := n + 2) hco).mono (Z2 ?_)); clear hco HM HF HG HX; intro w' X HF HG HX HM; have d1 := HM.out.cells_at (.s .z) 4 _ rfl) | (go_at_call 200; have hco := Za (l := _ :: l) HM HG HX; (with_reducible refine (UH (n := n + 1) q _ N1 hco).mono (Z2 ?_)); clear hco HM HF HG HX; intro w' X HF HG HX HM; have d1 := HM.out.cells_at (.s .z) 4 _ rfl))
 all_goals go_wp2_with (first | refine b6 ?_ | (refine cP ?_; clear HM; intro w' HM) | (refine a4 ?_; clear tg1 HM; intro w' g1 HM))
 all_goals go_ret
 all_goals have hco := Co.ok (l := _ :: l) HM.out HG.out HX.out
 all_goals exact ⟨rfl, Zb (hco.drop.less (by omega))⟩
theorem zY (h : Hid (Co W0 w c b s l (n + 1))) :
  CX 198 #[.pointer (some ⟨c, 0, none⟩), .bool true, .int .i64 12] w (.int .i64 12) fun w' => Hid (Co W0 w' c b ((s.next.goTo (wMove (up1 s.r.pc) s.nextV))) l n) := by
 obtain ⟨X, hf, HF, HG, HX, HM⟩ := h.out.hif
 have HF0 := HF
 have hg := HG.out
 have hX := HX.out
 have hO := HM.out
 have h2 : s.nextV < 256 := hf.m _
 clear h hf hg hX hO
 go_enter Tryz.func198, Tryz.ntmps198
 go_wp2_with (first | refine cG ?_ | (refine cP ?_; clear HM; intro w' HM) | (go_at_call 62; have hco := Za HM HG HX; (with_reducible refine (Yy hco).mono (coK ?_)); clear hco HM HF HG HX; intro w' X HF HG HX HM) | (go_at_call 127; (with_reducible refine (Y8 _ s.nextV _ HF.out.r.pc h2 (Zb rfl) _).mono ?_); rintro e w' ⟨rfl, rfl⟩) | (go_at_call 115; have hco := Za HM HG HX; (with_reducible refine (JP _ (Zt _ _) hco).mono (coK ?_)); clear hco HM HF HG HX; intro w' X HF HG HX HM))
 go_ret
 have hco := Co.ok HM.out HG.out HX.out
 exact ⟨rfl, Zb hco⟩
theorem Ww (h : Hid (Co W0 w c b s l (n + 1))) :
  CX 198 #[.pointer (some ⟨c, 0, none⟩), .bool false, .int .i64 12] w (.int .i64 7) fun w' => Hid (Co W0 w' c b (s.next) l n) := by
 obtain ⟨X, hf, HF, HG, HX, HM⟩ := h.out.hif
 have HF0 := HF
 have hg := HG.out
 have hX := HX.out
 have hO := HM.out
 have h2 : s.nextV < 256 := hf.m _
 clear h hf hg hX hO
 go_enter Tryz.func198, Tryz.ntmps198
 go_wp2_with (first | refine cG ?_ | (refine cP ?_; clear HM; intro w' HM) | (go_at_call 62; have hco := Za HM HG HX; (with_reducible refine (Yy hco).mono (coK ?_)); clear hco HM HF HG HX; intro w' X HF HG HX HM) | (go_at_call 127; (with_reducible refine (Y8 _ s.nextV _ HF.out.r.pc h2 (Zb rfl) _).mono ?_); rintro e w' ⟨rfl, rfl⟩) | (go_at_call 115; have hco := Za HM HG HX; (with_reducible refine (JP _ (Zt _ _) hco).mono (coK ?_)); clear hco HM HF HG HX; intro w' X HF HG HX HM))
 go_ret
 have hco := Co.ok HM.out HG.out HX.out
 exact ⟨rfl, Zb hco⟩
theorem Zgz (met : Bool) (h : Hid (Co W0 w c b s l (n + 1))) :
  CX 198 #[.pointer (some ⟨c, 0, none⟩), .bool met, .int .i64 12] w (.int .i64 ((Cs.hopC met 12 : Nat) : Int)) fun w' => Hid (Co W0 w' c b (s.hop met) l n) := by
 cases met
 ·exact Ww h
 ·exact zY h
theorem zZ (h : Hid (Co W0 w c b s l (n + 1))) :
  CX 198 #[.pointer (some ⟨c, 0, none⟩), .bool true, .int .i64 13] w (.int .i64 13) fun w' => Hid (Co W0 w' c b ((s.next.goTo (wMove (up1 s.r.pc) s.nextV))) l n) := by
 obtain ⟨X, hf, HF, HG, HX, HM⟩ := h.out.hif
 have HF0 := HF
 have hg := HG.out
 have hX := HX.out
 have hO := HM.out
 have h2 : s.nextV < 256 := hf.m _
 clear h hf hg hX hO
 go_enter Tryz.func198, Tryz.ntmps198
 go_wp2_with (first | refine cG ?_ | (refine cP ?_; clear HM; intro w' HM) | (go_at_call 62; have hco := Za HM HG HX; (with_reducible refine (Yy hco).mono (coK ?_)); clear hco HM HF HG HX; intro w' X HF HG HX HM) | (go_at_call 127; (with_reducible refine (Y8 _ s.nextV _ HF.out.r.pc h2 (Zb rfl) _).mono ?_); rintro e w' ⟨rfl, rfl⟩) | (go_at_call 115; have hco := Za HM HG HX; (with_reducible refine (JP _ (Zt _ _) hco).mono (coK ?_)); clear hco HM HF HG HX; intro w' X HF HG HX HM))
 go_ret
 have hco := Co.ok HM.out HG.out HX.out
 exact ⟨rfl, Zb hco⟩
theorem Wx (h : Hid (Co W0 w c b s l (n + 1))) :
  CX 198 #[.pointer (some ⟨c, 0, none⟩), .bool false, .int .i64 13] w (.int .i64 8) fun w' => Hid (Co W0 w' c b (s.next) l n) := by
 obtain ⟨X, hf, HF, HG, HX, HM⟩ := h.out.hif
 have HF0 := HF
 have hg := HG.out
 have hX := HX.out
 have hO := HM.out
 have h2 : s.nextV < 256 := hf.m _
 clear h hf hg hX hO
 go_enter Tryz.func198, Tryz.ntmps198
 go_wp2_with (first | refine cG ?_ | (refine cP ?_; clear HM; intro w' HM) | (go_at_call 62; have hco := Za HM HG HX; (with_reducible refine (Yy hco).mono (coK ?_)); clear hco HM HF HG HX; intro w' X HF HG HX HM) | (go_at_call 127; (with_reducible refine (Y8 _ s.nextV _ HF.out.r.pc h2 (Zb rfl) _).mono ?_); rintro e w' ⟨rfl, rfl⟩) | (go_at_call 115; have hco := Za HM HG HX; (with_reducible refine (JP _ (Zt _ _) hco).mono (coK ?_)); clear hco HM HF HG HX; intro w' X HF HG HX HM))
 go_ret
 have hco := Co.ok HM.out HG.out HX.out
 exact ⟨rfl, Zb hco⟩
theorem ZkC (met : Bool) (h : Hid (Co W0 w c b s l (n + 1))) :
  CX 198 #[.pointer (some ⟨c, 0, none⟩), .bool met, .int .i64 13] w (.int .i64 ((Cs.hopC met 13 : Nat) : Int)) fun w' => Hid (Co W0 w' c b (s.hop met) l n) := by
 cases met
 ·exact Wx h
 ·exact zZ h
theorem Wy (h : Hid (Co W0 w c b s l (n + 2))) :
  CX 157 #[.pointer (some ⟨c, 0, none⟩), .bool true] w (.int .i64 10) fun w' => Hid (Co W0 w' c b ((s.nextNum.setWZ s.nextNumV).setPC s.nextNumV) l n) := by
 obtain ⟨X, hf, HF, HG, HX, HM⟩ := h.out.hif
 have HF0 := HF
 have hg := HG.out
 have hX := HX.out
 have hO := HM.out
 have h1 : s.nextNumV < 65536 := Cs.numV_lt hf _
 clear h hf hg hX hO
 go_enter Tryz.func157, Tryz.ntmps157
 go_wp2_with (first | refine cG ?_ | (refine cP ?_; clear HM; intro w' HM) | (go_at_call 140; have hco := Za HM HG HX; (with_reducible refine (ZF hco).mono (coK ?_)); clear hco HM HF HG HX; intro w' X HF HG HX HM) | (go_at_call 57; have hco := Za HM HG HX; (with_reducible refine (YP s.nextNumV h1 hco).mono (coK ?_)); clear hco HM HF HG HX; intro w' X HF HG HX HM) | (go_at_call 124; have hco := Za HM HG HX; (with_reducible refine (Z9 hco).mono (coK ?_)); clear hco HM HF HG HX; intro w' X HF HG HX HM))
 go_ret
 have hco := fun hf => Co.made HM.out HG.out HX.out hf
 exact ⟨rfl, Zb ((hco (by first | with_reducible exact HF.out | (focus repeat' (first | (with_reducible first | exact HF.out | apply ftA | apply ftF | apply ftB | apply ftC | apply ftD | apply ftE | apply ftH | apply ftL | apply ftS | apply ftP | apply ftW | apply ftI | apply ftR | apply ftM | apply ftX | apply ft1 | apply ft2 | apply ftT | apply ftY | apply ftZ | apply ftr | exact Zy _ | exact ZP _ | exact Zt _ _ | exact Zm _ _ _ _ _ _ _ _ | exact Nat.mod_lt _ (by decide)) | assumption | omega | exact Nat.mod_lt _ (by decide))))).less (by omega))⟩
theorem v9 (h : Hid (Co W0 w c b s l (n + 2))) :
  CX 157 #[.pointer (some ⟨c, 0, none⟩), .bool false] w (.int .i64 10) fun w' => Hid (Co W0 w' c b (s.nextNum.setWZ s.nextNumV) l n) := by
 obtain ⟨X, hf, HF, HG, HX, HM⟩ := h.out.hif
 have HF0 := HF
 have hg := HG.out
 have hX := HX.out
 have hO := HM.out
 have h1 : s.nextNumV < 65536 := Cs.numV_lt hf _
 clear h hf hg hX hO
 go_enter Tryz.func157, Tryz.ntmps157
 go_wp2_with (first | refine cG ?_ | (refine cP ?_; clear HM; intro w' HM) | (go_at_call 140; have hco := Za HM HG HX; (with_reducible refine (ZF hco).mono (coK ?_)); clear hco HM HF HG HX; intro w' X HF HG HX HM) | (go_at_call 57; have hco := Za HM HG HX; (with_reducible refine (YP s.nextNumV h1 hco).mono (coK ?_)); clear hco HM HF HG HX; intro w' X HF HG HX HM) | (go_at_call 124; have hco := Za HM HG HX; (with_reducible refine (Z9 hco).mono (coK ?_)); clear hco HM HF HG HX; intro w' X HF HG HX HM))
 go_ret
 have hco := fun hf => Co.made HM.out HG.out HX.out hf
 exact ⟨rfl, Zb ((hco (by first | with_reducible exact HF.out | (focus repeat' (first | (with_reducible first | exact HF.out | apply ftA | apply ftF | apply ftB | apply ftC | apply ftD | apply ftE | apply ftH | apply ftL | apply ftS | apply ftP | apply ftW | apply ftI | apply ftR | apply ftM | apply ftX | apply ft1 | apply ft2 | apply ftT | apply ftY | apply ftZ | apply ftr | exact Zy _ | exact ZP _ | exact Zt _ _ | exact Zm _ _ _ _ _ _ _ _ | exact Nat.mod_lt _ (by decide)) | assumption | omega | exact Nat.mod_lt _ (by decide))))).less (by omega))⟩
theorem Wz (h : Hid (Co W0 w c b s l (n + 4))) :
  CX 159 #[.pointer (some ⟨c, 0, none⟩), .bool true] w (.int .i64 17) fun w' => Hid (Co W0 w' c b ((s.nextNum.setWZ s.nextNumV).start s.nextNumV) l n) := by
 obtain ⟨X, hf, HF, HG, HX, HM⟩ := h.out.hif
 have HF0 := HF
 have hg := HG.out
 have hX := HX.out
 have hO := HM.out
 have h1 : s.nextNumV < 65536 := Cs.numV_lt hf _
 clear h hf hg hX hO
 go_enter Tryz.func159, Tryz.ntmps159
 go_wp2_with (first | refine cG ?_ | (refine cP ?_; clear HM; intro w' HM) | (go_at_call 140; have hco := Za HM HG HX; (with_reducible refine (ZF hco).mono (coK ?_)); clear hco HM HF HG HX; intro w' X HF HG HX HM) | (go_at_call 57; have hco := Za HM HG HX; (with_reducible refine (YP s.nextNumV h1 hco).mono (coK ?_)); clear hco HM HF HG HX; intro w' X HF HG HX HM) | (go_at_call 124; have hco := Za HM HG HX; (with_reducible refine (Z9 hco).mono (coK ?_)); clear hco HM HF HG HX; intro w' X HF HG HX HM))
 go_ret
 have hco := fun hf => Co.made HM.out HG.out HX.out hf
 exact ⟨rfl, Zb ((hco (by first | with_reducible exact HF.out | (focus repeat' (first | (with_reducible first | exact HF.out | apply ftA | apply ftF | apply ftB | apply ftC | apply ftD | apply ftE | apply ftH | apply ftL | apply ftS | apply ftP | apply ftW | apply ftI | apply ftR | apply ftM | apply ftX | apply ft1 | apply ft2 | apply ftT | apply ftY | apply ftZ | apply ftr | exact Zy _ | exact ZP _ | exact Zt _ _ | exact Zm _ _ _ _ _ _ _ _ | exact Nat.mod_lt _ (by decide)) | assumption | omega | exact Nat.mod_lt _ (by decide))))).less (by omega))⟩
theorem Zaa (h : Hid (Co W0 w c b s l (n + 4))) :
  CX 159 #[.pointer (some ⟨c, 0, none⟩), .bool false] w (.int .i64 10) fun w' => Hid (Co W0 w' c b (s.nextNum.setWZ s.nextNumV) l n) := by
 obtain ⟨X, hf, HF, HG, HX, HM⟩ := h.out.hif
 have HF0 := HF
 have hg := HG.out
 have hX := HX.out
 have hO := HM.out
 have h1 : s.nextNumV < 65536 := Cs.numV_lt hf _
 clear h hf hg hX hO
 go_enter Tryz.func159, Tryz.ntmps159
 go_wp2_with (first | refine cG ?_ | (refine cP ?_; clear HM; intro w' HM) | (go_at_call 140; have hco := Za HM HG HX; (with_reducible refine (ZF hco).mono (coK ?_)); clear hco HM HF HG HX; intro w' X HF HG HX HM) | (go_at_call 57; have hco := Za HM HG HX; (with_reducible refine (YP s.nextNumV h1 hco).mono (coK ?_)); clear hco HM HF HG HX; intro w' X HF HG HX HM) | (go_at_call 124; have hco := Za HM HG HX; (with_reducible refine (Z9 hco).mono (coK ?_)); clear hco HM HF HG HX; intro w' X HF HG HX HM))
 go_ret
 have hco := fun hf => Co.made HM.out HG.out HX.out hf
 exact ⟨rfl, Zb ((hco (by first | with_reducible exact HF.out | (focus repeat' (first | (with_reducible first | exact HF.out | apply ftA | apply ftF | apply ftB | apply ftC | apply ftD | apply ftE | apply ftH | apply ftL | apply ftS | apply ftP | apply ftW | apply ftI | apply ftR | apply ftM | apply ftX | apply ft1 | apply ft2 | apply ftT | apply ftY | apply ftZ | apply ftr | exact Zy _ | exact ZP _ | exact Zt _ _ | exact Zm _ _ _ _ _ _ _ _ | exact Nat.mod_lt _ (by decide)) | assumption | omega | exact Nat.mod_lt _ (by decide))))).less (by omega))⟩
theorem Vt (h : Hid (Co W0 w c b s l (n + 2))) :
  CX 152 #[.pointer (some ⟨c, 0, none⟩), .bool true] w (.int .i64 11) fun w' => Hid (Co W0 w' c b (s.back) l n) := by
 obtain ⟨X, hf, HF, HG, HX, HM⟩ := h.out.hif
 have HF0 := HF
 have hg := HG.out
 have hX := HX.out
 have hO := HM.out
 have h1 : s.nextNumV < 65536 := Cs.numV_lt hf _
 clear h hf hg hX hO
 go_enter Tryz.func152, Tryz.ntmps152
 go_wp2_with (first | refine cG ?_ | (refine cP ?_; clear HM; intro w' HM) | (go_at_call 140; have hco := Za HM HG HX; (with_reducible refine (ZF hco).mono (coK ?_)); clear hco HM HF HG HX; intro w' X HF HG HX HM) | (go_at_call 57; have hco := Za HM HG HX; (with_reducible refine (YP s.nextNumV h1 hco).mono (coK ?_)); clear hco HM HF HG HX; intro w' X HF HG HX HM) | (go_at_call 124; have hco := Za HM HG HX; (with_reducible refine (Z9 hco).mono (coK ?_)); clear hco HM HF HG HX; intro w' X HF HG HX HM))
 go_ret
 have hco := fun hf => Co.made HM.out HG.out HX.out hf
 exact ⟨rfl, Zb ((hco (by first | with_reducible exact HF.out | (focus repeat' (first | (with_reducible first | exact HF.out | apply ftA | apply ftF | apply ftB | apply ftC | apply ftD | apply ftE | apply ftH | apply ftL | apply ftS | apply ftP | apply ftW | apply ftI | apply ftR | apply ftM | apply ftX | apply ft1 | apply ft2 | apply ftT | apply ftY | apply ftZ | apply ftr | exact Zy _ | exact ZP _ | exact Zt _ _ | exact Zm _ _ _ _ _ _ _ _ | exact Nat.mod_lt _ (by decide)) | assumption | omega | exact Nat.mod_lt _ (by decide))))).less (by omega))⟩
theorem KV (h : Hid (Co W0 w c b s l (n + 2))) :
  CX 152 #[.pointer (some ⟨c, 0, none⟩), .bool false] w (.int .i64 5) fun w' => Hid (Co W0 w' c b (s) l n) := by
 obtain ⟨X, hf, HF, HG, HX, HM⟩ := h.out.hif
 have HF0 := HF
 have hg := HG.out
 have hX := HX.out
 have hO := HM.out
 have h1 : s.nextNumV < 65536 := Cs.numV_lt hf _
 clear h hf hg hX hO
 go_enter Tryz.func152, Tryz.ntmps152
 go_wp2_with (first | refine cG ?_ | (refine cP ?_; clear HM; intro w' HM) | (go_at_call 140; have hco := Za HM HG HX; (with_reducible refine (ZF hco).mono (coK ?_)); clear hco HM HF HG HX; intro w' X HF HG HX HM) | (go_at_call 57; have hco := Za HM HG HX; (with_reducible refine (YP s.nextNumV h1 hco).mono (coK ?_)); clear hco HM HF HG HX; intro w' X HF HG HX HM) | (go_at_call 124; have hco := Za HM HG HX; (with_reducible refine (Z9 hco).mono (coK ?_)); clear hco HM HF HG HX; intro w' X HF HG HX HM))
 go_ret
 have hco := fun hf => Co.made HM.out HG.out HX.out hf
 exact ⟨rfl, Zb ((hco (by first | with_reducible exact HF.out | (focus repeat' (first | (with_reducible first | exact HF.out | apply ftA | apply ftF | apply ftB | apply ftC | apply ftD | apply ftE | apply ftH | apply ftL | apply ftS | apply ftP | apply ftW | apply ftI | apply ftR | apply ftM | apply ftX | apply ft1 | apply ft2 | apply ftT | apply ftY | apply ftZ | apply ftr | exact Zy _ | exact ZP _ | exact Zt _ _ | exact Zm _ _ _ _ _ _ _ _ | exact Nat.mod_lt _ (by decide)) | assumption | omega | exact Nat.mod_lt _ (by decide))))).less (by omega))⟩
theorem Zhy (met : Bool) (h : Hid (Co W0 w c b s l (n + 2))) :
  CX 157 #[.pointer (some ⟨c, 0, none⟩), .bool met] w (.int .i64 ((10 : Nat) : Int)) fun w' => Hid (Co W0 w' c b (s.jumpTo met) l n) := by
 cases met
 ·exact v9 h
 ·exact Wy h
theorem Zhz (met : Bool) (h : Hid (Co W0 w c b s l (n + 4))) :
  CX 159 #[.pointer (some ⟨c, 0, none⟩), .bool met] w (.int .i64 ((cond met 17 10 : Nat) : Int)) fun w' => Hid (Co W0 w' c b (s.callTo met) l n) := by
 cases met
 ·exact Zaa h
 ·exact Wz h
theorem UI (met : Bool) (h : Hid (Co W0 w c b s l (n + 2))) :
  CX 152 #[.pointer (some ⟨c, 0, none⟩), .bool met] w (.int .i64 ((cond met 11 5 : Nat) : Int)) fun w' => Hid (Co W0 w' c b (s.backIf met) l n) := by
 cases met
 ·exact KV h
 ·exact Vt h
theorem Vu {P : Program} {ops : Array Oper} {rest : List Oper} {o : Oper} {a : Act} {w : World} {Q : Exit → Act → World → Prop} {ty : TypeId} {x y : Operand} {v u r : Value} (ho : o.op = .index ty x y) (hx : a.eval x = v) (hy : a.eval y = u)
  (hrun : ∀ w, (Instr.index ty v u).run P w = .ok r w) (hw : Region.wanted o (yielded ops a.tmps) = true) (h : wpList P ops Q rest (a.put o.dst r) w) : wpList P ops Q (o :: rest) a w := by
 refine Zp hw fun K hK => ?_
 unfold Oper.wp execOp
 simp only [ho, hx, hy, Sem.run_bind, hrun, Result.andThen_ok]
 exact hK _ _ h
theorem aggF : Agg Tryz.prog 104 8 := ⟨⟨_, Tryz.underlying104, rfl⟩, by kernel_rfl⟩
theorem zeroF : ZgV Tryz.prog 104 [.bool false, .bool false, .bool false, .bool false, .bool false, .bool false, .bool false, .bool false] :=
 ⟨.agg #[.bool false, .bool false, .bool false, .bool false, .bool false, .bool false, .bool false, .bool false], fun _ => by kernel_rfl, rfl⟩
def Zb2 (s z y h x p n c : Bool) : Value := .agg #[.bool s, .bool z, .bool y, .bool h, .bool x, .bool p, .bool n, .bool c]
theorem Zab {a b : Bool} (h : a = b) : (Ending.returned (.bool a) : Ending) = .returned (.bool b) := by rw [h]
theorem ZS (v k : Nat) (q : Int) (hq : q = ((v / k % 2 : Nat) : Int)) : (q == 1) = Zf k v := by
 rw [Bool.eq_iff_iff, beq_iff_eq]
 unfold Zf
 rw [Nat.beq_eq]
 show _ ↔ v / k % 2 = 1
 omega
theorem ge_of (v k : Nat) : decide ((k : Int) ≤ (v : Int)) = Nat.ble k v := by
 rw [Bool.eq_iff_iff, decide_eq_true_eq, Nat.ble_eq]; omega
theorem ZeL (v k : Nat) : ((v : Int) == (k : Int)) = Nat.beq v k := by
 rw [Bool.eq_iff_iff, beq_iff_eq, Nat.beq_eq]; omega
theorem Vb {a b c d e f g h a' b' c' d' e' f' g' h' : Bool} (e1 : a = a') (e2 : b = b') (e3 : c = c') (e4 : d = d') (e5 : e = e') (e6 : f = f') (e7 : g = g') (e8 : h = h') :
  (Ending.returned (.agg #[.bool a, .bool b, .bool c, .bool d, .bool e, .bool f, .bool g, .bool h]) : Ending) = .returned (Zb2 a' b' c' d' e' f' g' h') := by subst e1 e2 e3 e4 e5 e6 e7 e8; rfl
theorem WA (f : Nat) (h : f < 256) (w : World) : Calls Tryz.prog 164 #[.int .u8 (f : Int)] w fun e w' =>
  e = .returned (Zb2 (Zf 128 f) (Zf 64 f) (Zf 32 f) (Zf 16 f) (Zf 8 f) (Zf 4 f) (Zf 2 f) (Zf 1 f)) ∧ Below w.heap.size w w' := by
 have HM := Zb (Own.start w)
 go_enter Tryz.func164, Tryz.ntmps164
 go_wp2_with (first | (refine b7 ?_; clear HM; intro w' g' HM) | refine b8 ?_ | (refine a12 ?_; clear HM; intro w' HM))
 refine bodyPost_ret (v := .agg #[.bool _, .bool _, .bool _, .bool _, .bool _, .bool _, .bool _, .bool _]) (Zi HM Tryz.results164 _ rfl (by first | exact .z | exact .s .z) aggF) rfl ⟨?_, Own.fin HM⟩
 exact Vb (ZS f 128 _ (by omega)) (ZS f 64 _ (by omega)) (ZS f 32 _ (by omega)) (ZS f 16 _ (by omega)) (ZS f 8 _ (by omega)) (ZS f 4 _ (by omega)) (ZS f 2 _ (by omega)) (ZS f 1 _ (by omega))
end
end Go.Proofs.YtgdeeiimkhjfiaaGreatDoor
