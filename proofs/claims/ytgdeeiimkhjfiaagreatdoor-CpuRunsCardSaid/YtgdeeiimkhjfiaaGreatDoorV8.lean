import Derived.Test.YtgdeeiimkhjfiaaGreatDoorV7
import Derived.Deep.RegionHeld3
set_option maxRecDepth 100000
set_option maxHeartbeats 6400000
namespace Go.Proofs.YtgdeeiimkhjfiaaGreatDoor
open Go.RowKit
section
variable {W0 w : World} {x b tq n c : Nat} {s : Cs} {ix : Bool} {pg : Int} {l : Zj}
theorem Cs.point_one (s : Cs) (i : Int) : s.point.r.one i 0 = s.r.one i 0 := by unfold Cs.point; split <;> rfl
theorem ZbW (x p q : Nat) (h : Hid (Co W0 w c b s l (n))) :
  CX 73 #[.pointer (some ⟨c, 0, none⟩), .agg #[.int .i64 (x : Int), .int .i64 6, .int .i64 6, .int .i64 (p : Int), .int .i64 (q : Int)]] w (.int .i64 4) fun w' => Hid (Co W0 w' c b (s.setHT true) l n) := by
 obtain ⟨X, HF, HG, HX, HM⟩ := h.out.hid
 have HF0 := HF
 clear h
 go_enter Tryz.func73, Tryz.ntmps73
 go_wp2_with (first | refine b6 ?_ | (refine cP ?_; clear HM; intro w' HM) | (refine a4 ?_; clear HM; intro w' g' HM))
 go_ret
 have hco := Co.ok (l := _ :: l) HM.out HG.out HX.out
 exact ⟨rfl, Zb hco.drop⟩
theorem Wv (x z p q : Nat) (hz : ¬ z = 6) (hp : s.px = 0) (h : Hid (Co W0 w c b s l (n + 3))) :
  CX 73 #[.pointer (some ⟨c, 0, none⟩), .agg #[.int .i64 (x : Int), .int .i64 6, .int .i64 (z : Int), .int .i64 (p : Int), .int .i64 (q : Int)]] w (.int .i64 7) fun w' => Hid (Co W0 w' c b (s.point.wr s.pointV (s.own z)) l n) := by
 obtain ⟨X, hf, HF, HG, HX, HM⟩ := h.out.hif
 have HF0 := HF
 have hg := HG.out
 have hX := HX.out
 have hO := HM.out
 have P1 : s.pointV < 65536 := Cs.pointV_lt hf
 have e0 : s.own z = s.point.own z := by unfold Cs.own; rw [Cs.point_one]
 have v1 : s.point.own z < 256 := by rw [← e0]; exact Cs.own_lt hf _
 rw [e0]
 have z1 : ((z : Int) == 6) = false := by simp; omega
 have hp' : ((s.px : Int) == 0) = true := by simp; omega
 have hpp : s.point.px = 0 := by rw [Cs.point_px]; exact hp
 clear e0 hz h hf hg hX hO
 have hmWrite : ∀ w : World, (method 296 29 (.pointer (some ⟨b, 0, none⟩)) "Write").run Tryz.prog w = .ok (248, .pointer (some ⟨b, 0, none⟩)) w := fun _ => by kernel_rfl
 have tg1 : Hid True := trivial
 go_enter Tryz.func73, Tryz.ntmps73
 go_upto_region 5 with (first | refine b6 ?_ | (refine cP ?_; clear HM; intro w' HM) | (refine a4 ?_; clear tg1 HM; intro w' g1 HM))
 have HM' := Zb HM.out.drew
 clear HM; have HM := HM'; clear HM'
 have c29 := HM.out.cells_at .z 29 _ rfl
 have d2 := HM.out.cells_at (.s .z) 2 _ rfl
 go_region_held3 (fun w' => w'.cell? ⟨c, 29, none⟩ = some (.iface 29 (.pointer (some ⟨b, 0, none⟩))) ∧ w'.cell? ⟨g1, 2, none⟩ = some (.int .i64 (z : Int))) (first | assumption | (simp only [*]; trivial) | simp [*]) (first | (go_at_call 65; have hco := Za (l := _ :: l) HM HG HX; (with_reducible refine (ZN hco).mono (Z2 ?_)); clear hco HM HF HG HX; intro w' X HF HG HX HM; have c29 := HM.out.cells_at .z 29 _ rfl; have d2 := HM.out.cells_at (.s .z) 2 _ rfl) | (go_at_call 149; (with_reducible refine (Zgx .z HM HF.out _).mono ?_); rintro e w' ⟨rfl, hb⟩; replace HM := Zb (HM.out.call hb); clear hb; have c29 := HM.out.cells_at .z 29 _ rfl; have d2 := HM.out.cells_at (.s .z) 2 _ rfl) | (go_at_call 248; have hco := Za (l := _ :: l) HM HG HX; (with_reducible refine (Y9 _ _ P1 v1 hco).mono (Z2 ?_)); clear hco HM HF HG HX; intro w' X HF HG HX HM; have c29 := HM.out.cells_at .z 29 _ rfl; have d2 := HM.out.cells_at (.s .z) 2 _ rfl))
 all_goals go_wp2_with (first | refine b6 ?_ | (refine cP ?_; clear HM; intro w' HM) | (refine a4 ?_; clear tg1 HM; intro w' g1 HM) | (go_at_call 150; (with_reducible refine (Yx (s := s.point.wr s.pointV (s.point.own z)) .z HM HF.out hpp 7 15).mono ?_); rintro e w' ⟨rfl, hb⟩; replace HM := Zb (HM.out.call hb); clear hb))
 all_goals go_ret
 all_goals have hco := Co.ok (l := _ :: l) HM.out HG.out HX.out
 all_goals exact ⟨rfl, Zb (hco.drop.less (by omega))⟩
theorem VS (x y p q : Nat) (hy : ¬ y = 6) (hp : s.px = 0) (h : Hid (Co W0 w c b s l (n + 3))) :
  CX 73 #[.pointer (some ⟨c, 0, none⟩), .agg #[.int .i64 (x : Int), .int .i64 (y : Int), .int .i64 6, .int .i64 (p : Int), .int .i64 (q : Int)]] w (.int .i64 7) fun w' => Hid (Co W0 w' c b ((s.point.rd s.pointV).setOwn y (s.m s.pointV)) l n) := by
 rw [show s.m s.pointV = s.point.m s.pointV by rw [Cs.point_m]]
 obtain ⟨X, hf, HF, HG, HX, HM⟩ := h.out.hif
 have HF0 := HF
 have hg := HG.out
 have hX := HX.out
 have hO := HM.out
 have P1 : s.pointV < 65536 := Cs.pointV_lt hf
 have v1 : s.point.m s.pointV < 256 := by rw [Cs.point_m]; exact hf.m _
 have y1 : ((y : Int) == 6) = false := by simp; omega
 have hp' : ((s.px : Int) == 0) = true := by simp; omega
 have hpp : ((s.point.rd s.pointV).setOwn y (s.point.m s.pointV)).px = 0 := by show s.point.px = 0; rw [Cs.point_px]; exact hp
 clear hy h hf hg hX hO
 have hmRead : ∀ w : World, (method 296 29 (.pointer (some ⟨b, 0, none⟩)) "Read").run Tryz.prog w = .ok (247, .pointer (some ⟨b, 0, none⟩)) w := fun _ => by kernel_rfl
 have tg1 : Hid True := trivial
 go_enter Tryz.func73, Tryz.ntmps73
 go_upto_region 8 with (first | refine b6 ?_ | (refine cP ?_; clear HM; intro w' HM) | (refine a4 ?_; clear tg1 HM; intro w' g1 HM))
 have HM' := Zb HM.out.drew
 clear HM; have HM := HM'; clear HM'
 have c29 := HM.out.cells_at .z 29 _ rfl
 have d1 := HM.out.cells_at (.s .z) 1 _ rfl
 go_region_held3 (fun w' => w'.cell? ⟨c, 29, none⟩ = some (.iface 29 (.pointer (some ⟨b, 0, none⟩))) ∧ w'.cell? ⟨g1, 1, none⟩ = some (.int .i64 (y : Int))) (first | assumption | (simp only [*]; trivial) | simp [*]) (first | (go_at_call 65; have hco := Za (l := _ :: l) HM HG HX; (with_reducible refine (ZN hco).mono (Z2 ?_)); clear hco HM HF HG HX; intro w' X HF HG HX HM; have c29 := HM.out.cells_at .z 29 _ rfl; have d1 := HM.out.cells_at (.s .z) 1 _ rfl) | (go_at_call 247; have hco := Za (l := _ :: l) HM HG HX; (with_reducible refine (YZ _ P1 hco).mono (Z2 ?_)); clear hco HM HF HG HX; intro w' X HF HG HX HM; have c29 := HM.out.cells_at .z 29 _ rfl; have d1 := HM.out.cells_at (.s .z) 1 _ rfl) | (go_at_call 129; have hco := Za (l := _ :: l) HM HG HX; (with_reducible refine (Jy _ _ v1 hco).mono (Z2 ?_)); clear hco HM HF HG HX; intro w' X HF HG HX HM; have c29 := HM.out.cells_at .z 29 _ rfl; have d1 := HM.out.cells_at (.s .z) 1 _ rfl))
 all_goals go_wp2_with (first | refine b6 ?_ | (refine cP ?_; clear HM; intro w' HM) | (refine a4 ?_; clear tg1 HM; intro w' g1 HM) | (go_at_call 150; (with_reducible refine (Yx (s := (s.point.rd s.pointV).setOwn y (s.point.m s.pointV)) .z HM HF.out hpp 7 15).mono ?_); rintro e w' ⟨rfl, hb⟩; replace HM := Zb (HM.out.call hb); clear hb))
 all_goals go_ret
 all_goals have hco := Co.ok (l := _ :: l) HM.out HG.out HX.out
 all_goals exact ⟨rfl, Zb (hco.drop.less (by omega))⟩
theorem zV (x z p q : Nat) (hz : ¬ z = 6) (hp : ¬ s.px = 0) (h : Hid (Co W0 w c b s l (n + 3))) :
  CX 73 #[.pointer (some ⟨c, 0, none⟩), .agg #[.int .i64 (x : Int), .int .i64 6, .int .i64 (z : Int), .int .i64 (p : Int), .int .i64 (q : Int)]] w (.int .i64 15) fun w' => Hid (Co W0 w' c b (s.point.wr s.pointV (s.own z)) l n) := by
 obtain ⟨X, hf, HF, HG, HX, HM⟩ := h.out.hif
 have HF0 := HF
 have hg := HG.out
 have hX := HX.out
 have hO := HM.out
 have P1 : s.pointV < 65536 := Cs.pointV_lt hf
 have e0 : s.own z = s.point.own z := by unfold Cs.own; rw [Cs.point_one]
 have v1 : s.point.own z < 256 := by rw [← e0]; exact Cs.own_lt hf _
 rw [e0]
 have z1 : ((z : Int) == 6) = false := by simp; omega
 have hp' : ((s.px : Int) == 0) = false := by simp; omega
 have hpp : ¬ s.point.px = 0 := by rw [Cs.point_px]; exact hp
 clear e0 hz h hf hg hX hO
 have hmWrite : ∀ w : World, (method 296 29 (.pointer (some ⟨b, 0, none⟩)) "Write").run Tryz.prog w = .ok (248, .pointer (some ⟨b, 0, none⟩)) w := fun _ => by kernel_rfl
 have tg1 : Hid True := trivial
 go_enter Tryz.func73, Tryz.ntmps73
 go_upto_region 5 with (first | refine b6 ?_ | (refine cP ?_; clear HM; intro w' HM) | (refine a4 ?_; clear tg1 HM; intro w' g1 HM))
 have HM' := Zb HM.out.drew
 clear HM; have HM := HM'; clear HM'
 have c29 := HM.out.cells_at .z 29 _ rfl
 have d2 := HM.out.cells_at (.s .z) 2 _ rfl
 go_region_held3 (fun w' => w'.cell? ⟨c, 29, none⟩ = some (.iface 29 (.pointer (some ⟨b, 0, none⟩))) ∧ w'.cell? ⟨g1, 2, none⟩ = some (.int .i64 (z : Int))) (first | assumption | (simp only [*]; trivial) | simp [*]) (first | (go_at_call 65; have hco := Za (l := _ :: l) HM HG HX; (with_reducible refine (ZN hco).mono (Z2 ?_)); clear hco HM HF HG HX; intro w' X HF HG HX HM; have c29 := HM.out.cells_at .z 29 _ rfl; have d2 := HM.out.cells_at (.s .z) 2 _ rfl) | (go_at_call 149; (with_reducible refine (Zgx .z HM HF.out _).mono ?_); rintro e w' ⟨rfl, hb⟩; replace HM := Zb (HM.out.call hb); clear hb; have c29 := HM.out.cells_at .z 29 _ rfl; have d2 := HM.out.cells_at (.s .z) 2 _ rfl) | (go_at_call 248; have hco := Za (l := _ :: l) HM HG HX; (with_reducible refine (Y9 _ _ P1 v1 hco).mono (Z2 ?_)); clear hco HM HF HG HX; intro w' X HF HG HX HM; have c29 := HM.out.cells_at .z 29 _ rfl; have d2 := HM.out.cells_at (.s .z) 2 _ rfl))
 all_goals go_wp2_with (first | refine b6 ?_ | (refine cP ?_; clear HM; intro w' HM) | (refine a4 ?_; clear tg1 HM; intro w' g1 HM) | (go_at_call 150; (with_reducible refine (YR (s := s.point.wr s.pointV (s.point.own z)) .z HM HF.out hpp 7 15).mono ?_); rintro e w' ⟨rfl, hb⟩; replace HM := Zb (HM.out.call hb); clear hb))
 all_goals go_ret
 all_goals have hco := Co.ok (l := _ :: l) HM.out HG.out HX.out
 all_goals exact ⟨rfl, Zb (hco.drop.less (by omega))⟩
theorem UG (x y p q : Nat) (hy : ¬ y = 6) (hp : ¬ s.px = 0) (h : Hid (Co W0 w c b s l (n + 3))) :
  CX 73 #[.pointer (some ⟨c, 0, none⟩), .agg #[.int .i64 (x : Int), .int .i64 (y : Int), .int .i64 6, .int .i64 (p : Int), .int .i64 (q : Int)]] w (.int .i64 15) fun w' => Hid (Co W0 w' c b ((s.point.rd s.pointV).setOwn y (s.m s.pointV)) l n) := by
 rw [show s.m s.pointV = s.point.m s.pointV by rw [Cs.point_m]]
 obtain ⟨X, hf, HF, HG, HX, HM⟩ := h.out.hif
 have HF0 := HF
 have hg := HG.out
 have hX := HX.out
 have hO := HM.out
 have P1 : s.pointV < 65536 := Cs.pointV_lt hf
 have v1 : s.point.m s.pointV < 256 := by rw [Cs.point_m]; exact hf.m _
 have y1 : ((y : Int) == 6) = false := by simp; omega
 have hp' : ((s.px : Int) == 0) = false := by simp; omega
 have hpp : ¬ ((s.point.rd s.pointV).setOwn y (s.point.m s.pointV)).px = 0 := by show ¬ s.point.px = 0; rw [Cs.point_px]; exact hp
 clear hy h hf hg hX hO
 have hmRead : ∀ w : World, (method 296 29 (.pointer (some ⟨b, 0, none⟩)) "Read").run Tryz.prog w = .ok (247, .pointer (some ⟨b, 0, none⟩)) w := fun _ => by kernel_rfl
 have tg1 : Hid True := trivial
 go_enter Tryz.func73, Tryz.ntmps73
 go_upto_region 8 with (first | refine b6 ?_ | (refine cP ?_; clear HM; intro w' HM) | (refine a4 ?_; clear tg1 HM; intro w' g1 HM))
 have HM' := Zb HM.out.drew
 clear HM; have HM := HM'; clear HM'
 have c29 := HM.out.cells_at .z 29 _ rfl
 have d1 := HM.out.cells_at (.s .z) 1 _ rfl
 go_region_held3 (fun w' => w'.cell? ⟨c, 29, none⟩ = some (.iface 29 (.pointer (some ⟨b, 0, none⟩))) ∧ w'.cell? ⟨g1, 1, none⟩ = some (.int .i64 (y : Int))) (first | assumption | (simp only [*]; trivial) | simp [*]) (first | (go_at_call 65; have hco := Za (l := _ :: l) HM HG HX; (with_reducible refine (ZN hco).mono (Z2 ?_)); clear hco HM HF HG HX; intro w' X HF HG HX HM; have c29 := HM.out.cells_at .z 29 _ rfl; have d1 := HM.out.cells_at (.s .z) 1 _ rfl) | (go_at_call 247; have hco := Za (l := _ :: l) HM HG HX; (with_reducible refine (YZ _ P1 hco).mono (Z2 ?_)); clear hco HM HF HG HX; intro w' X HF HG HX HM; have c29 := HM.out.cells_at .z 29 _ rfl; have d1 := HM.out.cells_at (.s .z) 1 _ rfl) | (go_at_call 129; have hco := Za (l := _ :: l) HM HG HX; (with_reducible refine (Jy _ _ v1 hco).mono (Z2 ?_)); clear hco HM HF HG HX; intro w' X HF HG HX HM; have c29 := HM.out.cells_at .z 29 _ rfl; have d1 := HM.out.cells_at (.s .z) 1 _ rfl))
 all_goals go_wp2_with (first | refine b6 ?_ | (refine cP ?_; clear HM; intro w' HM) | (refine a4 ?_; clear tg1 HM; intro w' g1 HM) | (go_at_call 150; (with_reducible refine (YR (s := (s.point.rd s.pointV).setOwn y (s.point.m s.pointV)) .z HM HF.out hpp 7 15).mono ?_); rintro e w' ⟨rfl, hb⟩; replace HM := Zb (HM.out.call hb); clear hb))
 all_goals go_ret
 all_goals have hco := Co.ok (l := _ :: l) HM.out HG.out HX.out
 all_goals exact ⟨rfl, Zb (hco.drop.less (by omega))⟩
theorem ZbX (x y z p q : Nat) (hy : ¬ y = 6) (hz : ¬ z = 6) (h : Hid (Co W0 w c b s l (n))) :
  CX 73 #[.pointer (some ⟨c, 0, none⟩), .agg #[.int .i64 (x : Int), .int .i64 (y : Int), .int .i64 (z : Int), .int .i64 (p : Int), .int .i64 (q : Int)]] w (.int .i64 4) fun w' => Hid (Co W0 w' c b (s.setOne y (s.one z)) l n) := by
 obtain ⟨X, hf, HF, HG, HX, HM⟩ := h.out.hif
 have HF0 := HF
 have hg := HG.out
 have hX := HX.out
 have hO := HM.out
 have v1 : s.one z < 256 := Cs.one_lt hf _
 have y1 : ((y : Int) == 6) = false := by simp; omega
 have z1 : ((z : Int) == 6) = false := by simp; omega
 clear hy hz h hf hg hX hO
 go_enter Tryz.func73, Tryz.ntmps73
 go_upto_region 10 with (first | refine b6 ?_ | (refine cP ?_; clear HM; intro w' HM) | (refine a4 ?_; clear HM; intro w' g' HM))
 (refine Zk 7 HM (by kernel_rfl) (by kernel_rfl) (by kernel_rfl) ?_; simp only [List.take_succ_cons, List.take_zero, List.drop_succ_cons, List.drop_zero]; (try simp only [Act.put, Ze, Zc, Zd]); repeat ((fail_if_success (with_reducible refine wpQuiet_nil ?_)); first | go_big_quiet_skip | (go_big_quiet_want; first | (refine a15 ?_; go_big_quiet_op; go_big_quiet_on) | (refine a16 ?_; go_big_quiet_op; go_big_quiet_on) | (refine a26 ?_; go_big_quiet_op; go_big_quiet_on) | (refine a24 ?_; go_big_quiet_op; go_big_quiet_on) | ((with_reducible apply Zh); exact fun w => rfl; (focus (go_simp; all_goals with_reducible rfl)); (intro wq HQ; first | (with_reducible exact Vq .z HQ HF.out _)); go_big_quiet_op; go_big_quiet_on) | (go_big_quiet_op; go_big_quiet_on) | (go_big_quiet_op; refine ⟨_, fun _ _ => rfl, ?_⟩; go_big_quiet_on))))
 refine wpQuiet_nil ?_
 intro w' HM'
 clear HM; have HM := HM'; clear HM'
 go_wp2_with (first | refine b6 ?_ | (refine cP ?_; clear HM; intro w' HM) | (refine a4 ?_; clear HM; intro w' g' HM) | (go_at_call 70; have hco := Za (l := _ :: l) HM HG HX; (with_reducible refine (YS _ _ v1 hco).mono (Z2 ?_)); clear hco HM HF HG HX; intro w' X HF HG HX HM))
 go_ret
 have hco := Co.ok (l := _ :: l) HM.out HG.out HX.out
 exact ⟨rfl, Zb hco.drop⟩
theorem v5 (i : Int) (h : Hid (Co W0 w c b s l (n))) :
  CX 141 #[.pointer (some ⟨c, 0, none⟩), .int .i64 i] w (.int .i64 11) fun w' => Hid (Co W0 w' c b (s.addPair i) l n) := by
 obtain ⟨X, hf, HF, HG, HX, HM⟩ := h.out.hif
 have HF0 := HF
 have hg := HG.out
 have hX := HX.out
 have hO := HM.out
 have p1 : s.pair 2 < 65536 := Cs.pair_lt hf _
 have p2 : s.pair i < 65536 := Cs.pair_lt hf _
 have f1 : s.r.f < 256 := hf.r.f
 have h3 : VR (s.pair 2) (s.pair i) s.r.f < 256 := j9 _ _ _
 have h4 : Yu (s.pair 2) (s.pair i) 0 < 65536 := Ys _ _ _
 have e1 : IntKind.u16.wrap ((s.pair 2 : Int) + 1) = ((up1 (s.pair 2) : Nat) : Int) := by generalize s.pair 2 = k; unfold up1; show ((k : Int) + 1) % 65536 = _; omega
 clear h hf hg hX hO
 go_enter Tryz.func141, Tryz.ntmps141
 go_upto_region 2 with (first | refine cG ?_ | (refine cP ?_; clear HM; intro w' HM) | (go_at_call 67; (with_reducible refine (ZB .z HM HF.out _).mono ?_); rintro e w' ⟨rfl, hb⟩; replace HM := Zb (HM.out.call hb); clear hb))
 (refine Zo HM (by kernel_rfl) (by kernel_rfl) ?_; (try simp only [Act.put, Ze, Zc, Zd]); repeat ((fail_if_success (with_reducible refine wpQuiet_nil ?_)); first | go_big_quiet_skip | (go_big_quiet_want; first | (refine a15 ?_; go_big_quiet_op; go_big_quiet_on) | (refine a16 ?_; go_big_quiet_op; go_big_quiet_on) | ((with_reducible apply Zh); exact fun w => rfl; (focus (go_simp; all_goals with_reducible rfl)); (intro wq HQ; first | (with_reducible exact ZB .z HQ HF.out _) | (with_reducible exact (Zho _ _ _ _ _ p1 p2 f1 (Zb rfl) (Zb rfl) _).mono fun _ _ ⟨he, hw⟩ => ⟨he, hw ▸ Below.refl _ _⟩)); go_big_quiet_op; go_big_quiet_on) | (go_big_quiet_op; go_big_quiet_on) | (go_big_quiet_op; refine ⟨_, fun _ _ => rfl, ?_⟩; go_big_quiet_on))))
 refine wpQuiet_nil ?_
 intro w' HM'
 clear HM; have HM := HM'; clear HM'
 go_wp2_with (first | refine cG ?_ | (refine cP ?_; clear HM; intro w' HM) | (go_at_call 139; have hco := Za HM HG HX; (with_reducible refine (ZO 2 _ h4 hco).mono (coK ?_)); clear hco HM HF HG HX; intro w' X HF HG HX HM))
 go_ret
 have hco := Co.ok HM.out HG.out HX.out
 exact ⟨rfl, Zb hco⟩
theorem zW (x y z p : Nat) (h : Hid (Co W0 w c b s l (n))) :
  CX 143 #[.pointer (some ⟨c, 0, none⟩), .agg #[.int .i64 (x : Int), .int .i64 (y : Int), .int .i64 (z : Int), .int .i64 (p : Int), .int .i64 0]] w (.tuple #[]) fun w' => Hid (Co W0 w' c b (s.setPair (p : Int) (up1 (s.pair (p : Int)))) l n) := by
 obtain ⟨X, hf, HF, HG, HX, HM⟩ := h.out.hif
 have HF0 := HF
 have hg := HG.out
 have hX := HX.out
 have hO := HM.out
 have e1 : IntKind.u16.wrap ((s.pair (p : Int) : Int) + 1) = ((up1 (s.pair (p : Int)) : Nat) : Int) := by generalize s.pair (p : Int) = k; unfold up1; show ((k : Int) + 1) % 65536 = _; omega
 have h1 := Zy (s.pair (p : Int))
 clear h hf hg hX hO
 go_enter Tryz.func143, Tryz.ntmps143
 go_upto_region 2 with (first | refine b6 ?_ | (refine cP ?_; clear HM; intro w' HM) | (refine a4 ?_; clear HM; intro w' g' HM))
 (refine Zk 8 HM (by kernel_rfl) (by kernel_rfl) (by kernel_rfl) ?_; simp only [List.take_succ_cons, List.take_zero, List.drop_succ_cons, List.drop_zero]; (try simp only [Act.put, Ze, Zc, Zd]); repeat ((fail_if_success (with_reducible refine wpQuiet_nil ?_)); first | go_big_quiet_skip | (go_big_quiet_want; first | (refine a15 ?_; go_big_quiet_op; go_big_quiet_on) | (refine a16 ?_; go_big_quiet_op; go_big_quiet_on) | (refine a26 ?_; go_big_quiet_op; go_big_quiet_on) | (refine a24 ?_; go_big_quiet_op; go_big_quiet_on) | ((with_reducible apply Zh); exact fun w => rfl; (focus (go_simp; all_goals with_reducible rfl)); (intro wq HQ; first | (with_reducible exact ZB .z HQ HF.out _)); go_big_quiet_op; go_big_quiet_on) | (go_big_quiet_op; go_big_quiet_on) | (go_big_quiet_op; refine ⟨_, fun _ _ => rfl, ?_⟩; go_big_quiet_on))))
 refine wpQuiet_nil ?_
 intro w' HM'
 clear HM; have HM := HM'; clear HM'
 go_wp2_with (first | refine b6 ?_ | (refine cP ?_; clear HM; intro w' HM) | (refine a4 ?_; clear HM; intro w' g' HM) | (go_at_call 139; have hco := Za (l := _ :: l) HM HG HX; (with_reducible refine (ZO _ _ h1 hco).mono (Z2 ?_)); clear hco HM HF HG HX; intro w' X HF HG HX HM))
 go_end0
 have hco := Co.ok (l := _ :: l) HM.out HG.out HX.out
 exact ⟨rfl, Zb hco.drop⟩
theorem zX (x y z p : Nat) (h : Hid (Co W0 w c b s l (n))) :
  CX 143 #[.pointer (some ⟨c, 0, none⟩), .agg #[.int .i64 (x : Int), .int .i64 (y : Int), .int .i64 (z : Int), .int .i64 (p : Int), .int .i64 1]] w (.tuple #[]) fun w' => Hid (Co W0 w' c b (s.setPair (p : Int) (dn1 (s.pair (p : Int)))) l n) := by
 obtain ⟨X, hf, HF, HG, HX, HM⟩ := h.out.hif
 have HF0 := HF
 have hg := HG.out
 have hX := HX.out
 have hO := HM.out
 have e1 : IntKind.u16.wrap ((s.pair (p : Int) : Int) - 1) = ((dn1 (s.pair (p : Int)) : Nat) : Int) := by generalize s.pair (p : Int) = k; unfold dn1; show ((k : Int) - 1) % 65536 = _; omega
 have h1 := ZP (s.pair (p : Int))
 clear h hf hg hX hO
 go_enter Tryz.func143, Tryz.ntmps143
 go_upto_region 3 with (first | refine b6 ?_ | (refine cP ?_; clear HM; intro w' HM) | (refine a4 ?_; clear HM; intro w' g' HM))
 (refine Zk 8 HM (by kernel_rfl) (by kernel_rfl) (by kernel_rfl) ?_; simp only [List.take_succ_cons, List.take_zero, List.drop_succ_cons, List.drop_zero]; (try simp only [Act.put, Ze, Zc, Zd]); repeat ((fail_if_success (with_reducible refine wpQuiet_nil ?_)); first | go_big_quiet_skip | (go_big_quiet_want; first | (refine a15 ?_; go_big_quiet_op; go_big_quiet_on) | (refine a16 ?_; go_big_quiet_op; go_big_quiet_on) | (refine a26 ?_; go_big_quiet_op; go_big_quiet_on) | (refine a24 ?_; go_big_quiet_op; go_big_quiet_on) | ((with_reducible apply Zh); exact fun w => rfl; (focus (go_simp; all_goals with_reducible rfl)); (intro wq HQ; first | (with_reducible exact ZB .z HQ HF.out _)); go_big_quiet_op; go_big_quiet_on) | (go_big_quiet_op; go_big_quiet_on) | (go_big_quiet_op; refine ⟨_, fun _ _ => rfl, ?_⟩; go_big_quiet_on))))
 refine wpQuiet_nil ?_
 intro w' HM'
 clear HM; have HM := HM'; clear HM'
 go_wp2_with (first | refine b6 ?_ | (refine cP ?_; clear HM; intro w' HM) | (refine a4 ?_; clear HM; intro w' g' HM) | (go_at_call 139; have hco := Za (l := _ :: l) HM HG HX; (with_reducible refine (ZO _ _ h1 hco).mono (Z2 ?_)); clear hco HM HF HG HX; intro w' X HF HG HX HM))
 go_end0
 have hco := Co.ok (l := _ :: l) HM.out HG.out HX.out
 exact ⟨rfl, Zb hco.drop⟩
theorem Zhw (a : Nat) (ha : a < 65536) (h : Hid (Co W0 w c b s l (n + 1))) :
  CX 200 #[.pointer (some ⟨c, 0, none⟩), .int .i64 0, .int .u16 (a : Int)] w (.tuple #[]) fun w' => Hid (Co W0 w' c b ((s.wr a s.r.a).setWZ (s.r.a * 256 + up1 a % 256)) l n) := by
 obtain ⟨X, hf, HF, HG, HX, HM⟩ := h.out.hif
 have HF0 := HF
 have hg := HG.out
 have hX := HX.out
 have hO := HM.out
 have a1 : s.r.a < 256 := hf.r.a
 obtain ⟨u, hu⟩ : ∃ u, Hid (up1 a = u) := ⟨_, rfl⟩
 obtain ⟨lo, hlo⟩ : ∃ x, Hid (u % 256 = x) := ⟨_, rfl⟩
 obtain ⟨hi, hhi⟩ : ∃ x, Hid (Zx u = x) := ⟨_, rfl⟩
 obtain ⟨J, hJ⟩ : ∃ x, Hid (s.r.a * 256 + lo = x) := ⟨_, rfl⟩
 have u1 : u < 65536 := by rw [← hu.out]; exact Zy _
 have lo1 : lo < 256 := by rw [← hlo.out]; exact Nat.mod_lt _ (by decide)
 have J1 : J < 65536 := by rw [← hJ.out]; omega
 have e1 : IntKind.u16.wrap ((a : Int) + 1) = (u : Int) := by rw [← hu.out]; unfold up1; show ((a : Int) + 1) % 65536 = _; omega
 rw [hu.out, hlo.out, hJ.out]
 clear h hf hg hX hO
 have hmWrite : ∀ w : World, (method 296 29 (.pointer (some ⟨b, 0, none⟩)) "Write").run Tryz.prog w = .ok (248, .pointer (some ⟨b, 0, none⟩)) w := fun _ => by kernel_rfl
 go_enter Tryz.func200, Tryz.ntmps200
 go_upto_region 3 with fail
 (refine Zk 12 HM (by kernel_rfl) (by kernel_rfl) (by kernel_rfl) ?_; simp only [List.take_succ_cons, List.take_zero, List.drop_succ_cons, List.drop_zero]; (try simp only [Act.put, Ze, Zc, Zd]); repeat ((fail_if_success (with_reducible refine wpQuiet_nil ?_)); first | go_big_quiet_skip | (go_big_quiet_want; first | (refine a15 ?_; go_big_quiet_op; go_big_quiet_on) | (refine a16 ?_; go_big_quiet_op; go_big_quiet_on) | (go_big_quiet_op; go_big_quiet_on) | (go_big_quiet_op; refine ⟨_, fun _ _ => rfl, ?_⟩; go_big_quiet_on))))
 refine wpQuiet_nil ?_
 intro w' HM'
 clear HM; have HM := HM'; clear HM'
 go_wp2_with (first | refine cG ?_ | (refine cP ?_; clear HM; intro w' HM) | (go_at_call 248; have hco := Za HM HG HX; (with_reducible refine (Y9 _ _ ha a1 hco).mono (coK ?_)); clear hco HM HF HG HX; intro w' X HF HG HX HM) | (go_at_call 128; (with_reducible refine (Z7 u hi lo u1 hhi hlo _).mono ?_); rintro e w' ⟨rfl, rfl⟩) | (go_at_call 117; (with_reducible refine (YF s.r.a lo J a1 lo1 hJ _).mono ?_); rintro e w' ⟨rfl, rfl⟩))
 go_end0
 have hco := Co.ok HM.out HG.out HX.out
 exact ⟨rfl, Zb hco⟩
theorem Zhx (q a : Nat) (hq : ¬ q = 0) (ha : a < 65536) (h : Hid (Co W0 w c b s l (n + 1))) :
  CX 200 #[.pointer (some ⟨c, 0, none⟩), .int .i64 (q : Int), .int .u16 (a : Int)] w (.tuple #[]) fun w' => Hid (Co W0 w' c b (((s.rd a).setA (s.m a)).setWZ (up1 a)) l n) := by
 obtain ⟨X, hf, HF, HG, HX, HM⟩ := h.out.hif
 have HF0 := HF
 have hg := HG.out
 have hX := HX.out
 have hO := HM.out
 have m1 : s.m a < 256 := hf.m _
 have q1 : ((q : Int) != 0) = true := by simp; omega
 have e1 : IntKind.u16.wrap ((a : Int) + 1) = ((up1 a : Nat) : Int) := by unfold up1; show ((a : Int) + 1) % 65536 = _; omega
 clear h hf hg hX hO
 have hmRead : ∀ w : World, (method 296 29 (.pointer (some ⟨b, 0, none⟩)) "Read").run Tryz.prog w = .ok (247, .pointer (some ⟨b, 0, none⟩)) w := fun _ => by kernel_rfl
 go_enter Tryz.func200, Tryz.ntmps200
 go_wp2_with (first | refine cG ?_ | (refine cP ?_; clear HM; intro w' HM) | (go_at_call 247; have hco := Za HM HG HX; (with_reducible refine (YZ _ ha hco).mono (coK ?_)); clear hco HM HF HG HX; intro w' X HF HG HX HM))
 (try simp only [Exit.inBlock, Exit.then])
 refine bodyPost_ret (results_none rfl _ _ _) rfl ?_
 have hco := Co.ok HM.out HG.out HX.out
 exact ⟨rfl, Zb hco⟩
theorem UH (q a : Nat) (ha : a < 65536) (h : Hid (Co W0 w c b s l (n + 1))) :
  CX 200 #[.pointer (some ⟨c, 0, none⟩), .int .i64 (q : Int), .int .u16 (a : Int)] w (.tuple #[]) fun w' => Hid (Co W0 w' c b (s.moveA q a) l n) := by
 unfold Cs.moveA
 by_cases hq : q = 0
 ·subst hq; rw [if_pos rfl]; exact Zhw a ha h
 ·rw [if_neg hq]; exact Zhx q a hq ha h
theorem v6 (i : Int) (h : Hid (Co W0 w c b s l (n + 4))) :
  CX 122 #[.pointer (some ⟨c, 0, none⟩), .int .i64 0, .int .i64 i] w (.tuple #[]) fun w' => Hid (Co W0 w' c b ((s.nextNum.setWZ (up1 s.nextNumV)).setNum s.nextNumV (s.pair i)) l n) := by
 obtain ⟨X, hf, HF, HG, HX, HM⟩ := h.out.hif
 have HF0 := HF
 have hg := HG.out
 have hX := HX.out
 have hO := HM.out
 have N1 : s.nextNumV < 65536 := Cs.numV_lt hf _
 have p1 : (s.nextNum.setWZ (up1 s.nextNumV)).pair i < 65536 := s.r.pair_lt hf.r _
 have e1 : IntKind.u16.wrap ((s.nextNumV : Int) + 1) = ((up1 s.nextNumV : Nat) : Int) := by generalize s.nextNumV = k; unfold up1; show ((k : Int) + 1) % 65536 = _; omega
 clear h hf hg hX hO
 go_enter Tryz.func122, Tryz.ntmps122
 go_wp2_with (first | refine cG ?_ | (refine cP ?_; clear HM; intro w' HM) | (go_at_call 140; have hco := Za HM HG HX; (with_reducible refine (ZF hco).mono (coK ?_)); clear hco HM HF HG HX; intro w' X HF HG HX HM) | (go_at_call 67; (with_reducible refine (ZB .z HM (Cs.setWZ_fits HF.out (Zy _)) _).mono ?_); rintro e w' ⟨rfl, hb⟩; replace HM := Zb (HM.out.call hb); clear hb) | (go_at_call 181; have hco := Za HM HG HX; (with_reducible refine (KM _ _ N1 p1 hco).mono (coK ?_)); clear hco HM HF HG HX; intro w' X HF HG HX HM))
 go_end0
 have hco := Co.ok HM.out HG.out HX.out
 exact ⟨rfl, Zb hco⟩
theorem v7 (q : Nat) (hq : ¬ q = 0) (i : Int) (h : Hid (Co W0 w c b s l (n + 4))) :
  CX 122 #[.pointer (some ⟨c, 0, none⟩), .int .i64 (q : Int), .int .i64 i] w (.tuple #[]) fun w' => Hid (Co W0 w' c b (((s.nextNum.setWZ (up1 s.nextNumV)).num s.nextNumV).setPair i (s.numV s.nextNumV)) l n) := by
 obtain ⟨X, hf, HF, HG, HX, HM⟩ := h.out.hif
 have HF0 := HF
 have hg := HG.out
 have hX := HX.out
 have hO := HM.out
 have N1 : s.nextNumV < 65536 := Cs.numV_lt hf _
 have N2 : (s.nextNum.setWZ (up1 s.nextNumV)).numV s.nextNumV < 65536 := Cs.numV_lt (s := s) hf _
 have q1 : ((q : Int) == 0) = false := by simp; omega
 have e1 : IntKind.u16.wrap ((s.nextNumV : Int) + 1) = ((up1 s.nextNumV : Nat) : Int) := by generalize s.nextNumV = k; unfold up1; show ((k : Int) + 1) % 65536 = _; omega
 clear h hf hg hX hO
 go_enter Tryz.func122, Tryz.ntmps122
 go_wp2_with (first | refine cG ?_ | (refine cP ?_; clear HM; intro w' HM) | (go_at_call 140; have hco := Za HM HG HX; (with_reducible refine (ZF hco).mono (coK ?_)); clear hco HM HF HG HX; intro w' X HF HG HX HM) | (go_at_call 116; have hco := Za HM HG HX; (with_reducible refine (Jl _ N1 hco).mono (coK ?_)); clear hco HM HF HG HX; intro w' X HF HG HX HM) | (go_at_call 139; have hco := Za HM HG HX; (with_reducible refine (ZO _ _ N2 hco).mono (coK ?_)); clear hco HM HF HG HX; intro w' X HF HG HX HM))
 go_end0
 have hco := Co.ok HM.out HG.out HX.out
 exact ⟨rfl, Zb hco⟩
theorem Vs (q : Nat) (i : Int) (h : Hid (Co W0 w c b s l (n + 4))) :
  CX 122 #[.pointer (some ⟨c, 0, none⟩), .int .i64 (q : Int), .int .i64 i] w (.tuple #[]) fun w' => Hid (Co W0 w' c b (s.movePair q i) l n) := by
 unfold Cs.movePair
 by_cases hq : q = 0
 ·subst hq; rw [if_pos rfl]; exact v6 i h
 ·rw [if_neg hq]; exact v7 q hq i h
end
end Go.Proofs.YtgdeeiimkhjfiaaGreatDoor
