import Derived.Test.YtgdeeiimkhjfiaaGreatDoorV10
set_option maxRecDepth 100000
set_option maxHeartbeats 6400000
namespace Go.Proofs.YtgdeeiimkhjfiaaGreatDoor
open Go.RowKit
section
variable {W0 w : World} {x b tq n c : Nat} {s : Cs} {ix : Bool} {pg : Int} {l : Zj}
theorem WE (x y z p q : Nat) (hz : z = 0) (hT : Hid (Tabs W0)) (hy : y < 8) (h : Hid (Co W0 w c b s l (n + 4))) :
  CX 72 #[.pointer (some ⟨c, 0, none⟩), .agg #[.int .i64 (x : Int), .int .i64 (y : Int), .int .i64 (z : Int), .int .i64 (p : Int), .int .i64 (q : Int)]] w (.int .i64 ((s.startsC y : Nat) : Int)) fun w' => Hid (Co W0 w' c b (s.starts y) l n) := by
 obtain ⟨X, hf, HF, HG, HX, HM⟩ := h.out.hif
 have HF0 := HF
 have hg := HG.out
 have hX := HX.out
 have hO := HM.out
 have z0 : ((z : Int) == 0) = true := by rw [hz]; rfl
 have z1 : ((z : Int) == 1) = false := by rw [hz]; rfl
 have z2 : ((z : Int) == 2) = false := by rw [hz]; rfl
 have z3 : ((z : Int) == 3) = false := by rw [hz]; rfl
 have z4 : ((z : Int) == 4) = false := by rw [hz]; rfl
 have z5 : ((z : Int) == 5) = false := by rw [hz]; rfl
 have z6 : ((z : Int) == 6) = false := by rw [hz]; rfl
 have z7 : ((z : Int) == 7) = false := by rw [hz]; rfl
 clear h hf hg hX hO
 go_enter Tryz.func72, Tryz.ntmps72
 go_wp2_with (first | refine b6 ?_ | (refine cP ?_; clear HM; intro w' HM) | (refine a4 ?_; clear HM; intro w' g' HM) | (go_at_call 138; have hco := Za (l := _ :: l) HM HG HX; (with_reducible refine (Zb6 hT y hy hco).mono (Z2 ?_)); clear hco HM HF HG HX; intro w' X HF HG HX HM))
 go_ret
 have hco := Co.ok (l := _ :: l) HM.out HG.out HX.out
 exact ⟨rfl, Zb (hco.drop.less (by omega))⟩
theorem UJ (x y z p : Nat) (hz : z = 1) (h : Hid (Co W0 w c b s l (n + 4))) :
  CX 72 #[.pointer (some ⟨c, 0, none⟩), .agg #[.int .i64 (x : Int), .int .i64 (y : Int), .int .i64 (z : Int), .int .i64 (p : Int), .int .i64 0]] w (.int .i64 10) fun w' => Hid (Co W0 w' c b (s.nextNum.setPair (p : Nat) s.nextNumV) l n) := by
 obtain ⟨X, hf, HF, HG, HX, HM⟩ := h.out.hif
 have HF0 := HF
 have hg := HG.out
 have hX := HX.out
 have hO := HM.out
 have z0 : ((z : Int) == 0) = false := by rw [hz]; rfl
 have z1 : ((z : Int) == 1) = true := by rw [hz]; rfl
 have z2 : ((z : Int) == 2) = false := by rw [hz]; rfl
 have z3 : ((z : Int) == 3) = false := by rw [hz]; rfl
 have z4 : ((z : Int) == 4) = false := by rw [hz]; rfl
 have z5 : ((z : Int) == 5) = false := by rw [hz]; rfl
 have z6 : ((z : Int) == 6) = false := by rw [hz]; rfl
 have z7 : ((z : Int) == 7) = false := by rw [hz]; rfl
 have N1 : s.nextNumV < 65536 := Cs.numV_lt hf _
 clear h hf hg hX hO
 have tg1 : Hid True := trivial
 go_enter Tryz.func72, Tryz.ntmps72
 go_upto_region 6 with (first | refine b6 ?_ | (refine cP ?_; clear HM; intro w' HM) | (refine a4 ?_; clear tg1 HM; intro w' g1 HM))
 have HM' := Zb HM.out.drew
 clear HM; have HM := HM'; clear HM'
 have d1 := HM.out.cells_at (.s .z) 3 _ rfl
 go_region_held3 (fun w' => w'.cell? ⟨g1, 3, none⟩ = some (.int .i64 (p : Int))) (first | assumption | (simp only [*]; trivial) | simp [*]) (first | (go_at_call 140; have hco := Za (l := _ :: l) HM HG HX; (with_reducible refine (ZF (n := n + 2) hco).mono (Z2 ?_)); clear hco HM HF HG HX; intro w' X HF HG HX HM; have d1 := HM.out.cells_at (.s .z) 3 _ rfl) | (go_at_call 139; have hco := Za (l := _ :: l) HM HG HX; (with_reducible refine (ZO _ _ N1 hco).mono (Z2 ?_)); clear hco HM HF HG HX; intro w' X HF HG HX HM; have d1 := HM.out.cells_at (.s .z) 3 _ rfl))
 all_goals go_wp2_with (first | refine b6 ?_ | (refine cP ?_; clear HM; intro w' HM) | (refine a4 ?_; clear tg1 HM; intro w' g1 HM))
 all_goals go_ret
 all_goals have hco := Co.ok (l := _ :: l) HM.out HG.out HX.out
 all_goals exact ⟨rfl, Zb (hco.drop.less (by omega))⟩
theorem UK (x y z p q : Nat) (hz : z = 1) (hq : ¬ q = 0) (h : Hid (Co W0 w c b s l (n + 4))) :
  CX 72 #[.pointer (some ⟨c, 0, none⟩), .agg #[.int .i64 (x : Int), .int .i64 (y : Int), .int .i64 (z : Int), .int .i64 (p : Int), .int .i64 (q : Int)]] w (.int .i64 11) fun w' => Hid (Co W0 w' c b (s.addPair (p : Nat)) l n) := by
 obtain ⟨X, hf, HF, HG, HX, HM⟩ := h.out.hif
 have HF0 := HF
 have hg := HG.out
 have hX := HX.out
 have hO := HM.out
 have z0 : ((z : Int) == 0) = false := by rw [hz]; rfl
 have z1 : ((z : Int) == 1) = true := by rw [hz]; rfl
 have z2 : ((z : Int) == 2) = false := by rw [hz]; rfl
 have z3 : ((z : Int) == 3) = false := by rw [hz]; rfl
 have z4 : ((z : Int) == 4) = false := by rw [hz]; rfl
 have z5 : ((z : Int) == 5) = false := by rw [hz]; rfl
 have z6 : ((z : Int) == 6) = false := by rw [hz]; rfl
 have z7 : ((z : Int) == 7) = false := by rw [hz]; rfl
 have q0 : ((q : Int) == 0) = false := by simp; omega
 clear h hf hg hX hO
 go_enter Tryz.func72, Tryz.ntmps72
 go_wp2_with (first | refine b6 ?_ | (refine cP ?_; clear HM; intro w' HM) | (refine a4 ?_; clear HM; intro w' g' HM) | (go_at_call 141; have hco := Za (l := _ :: l) HM HG HX; (with_reducible refine (v5 _ hco).mono (Z2 ?_)); clear hco HM HF HG HX; intro w' X HF HG HX HM))
 go_ret
 have hco := Co.ok (l := _ :: l) HM.out HG.out HX.out
 exact ⟨rfl, Zb (hco.drop.less (by omega))⟩
theorem WF (y p q : Nat) (hy : y < 8) (hp : y / 2 = p) (hq : y % 2 = q) (h : Hid (Co W0 w c b s l (n + 4))) :
  CX 72 #[.pointer (some ⟨c, 0, none⟩), .agg #[.int .i64 0, .int .i64 (y : Int), .int .i64 2, .int .i64 (p : Int), .int .i64 (q : Int)]] w (.int .i64 ((Cs.moveFarC y : Nat) : Int)) fun w' => Hid (Co W0 w' c b (s.moveFar y) l n) := by
 obtain ⟨X, HF, HG, HX, HM⟩ := h.out.hid
 have HF0 := HF
 clear h
 go_enter Tryz.func72, Tryz.ntmps72
 go_wp2_with (first | refine b6 ?_ | (refine cP ?_; clear HM; intro w' HM) | (refine a4 ?_; clear HM; intro w' g' HM) | (go_at_call 142; have hco := Za (l := _ :: l) HM HG HX; (with_reducible refine (Zaf y p q hy hp hq hco).mono (Z2 ?_)); clear hco HM HF HG HX; intro w' X HF HG HX HM))
 go_ret
 have hco := Co.ok (l := _ :: l) HM.out HG.out HX.out
 exact ⟨rfl, Zb (hco.drop.less (by omega))⟩
theorem WG (x y p q : Nat) (hp : y / 2 = p) (hq : y % 2 = q) (h : Hid (Co W0 w c b s l (n + 4))) :
  CX 72 #[.pointer (some ⟨c, 0, none⟩), .agg #[.int .i64 (x : Int), .int .i64 (y : Int), .int .i64 3, .int .i64 (p : Int), .int .i64 (q : Int)]] w (.int .i64 6) fun w' => Hid (Co W0 w' c b (s.countPair y) l n) := by
 obtain ⟨X, HF, HG, HX, HM⟩ := h.out.hid
 have HF0 := HF
 clear h
 go_enter Tryz.func72, Tryz.ntmps72
 go_wp2_with (first | refine b6 ?_ | (refine cP ?_; clear HM; intro w' HM) | (refine a4 ?_; clear HM; intro w' g' HM) | (go_at_call 143; have hco := Za (l := _ :: l) HM HG HX; (with_reducible refine (WD x y p q hp hq hco).mono (Z2 ?_)); clear hco HM HF HG HX; intro w' X HF HG HX HM))
 go_ret
 have hco := Co.ok (l := _ :: l) HM.out HG.out HX.out
 exact ⟨rfl, Zb (hco.drop.less (by omega))⟩
theorem WH (x y z p q : Nat) (hz : z = 4) (h : Hid (Co W0 w c b s l (n + 4))) :
  CX 72 #[.pointer (some ⟨c, 0, none⟩), .agg #[.int .i64 (x : Int), .int .i64 (y : Int), .int .i64 (z : Int), .int .i64 (p : Int), .int .i64 (q : Int)]] w (.int .i64 ((s.countC y : Nat) : Int)) fun w' => Hid (Co W0 w' c b (s.count (y : Int) false) l n) := by
 obtain ⟨X, hf, HF, HG, HX, HM⟩ := h.out.hif
 have HF0 := HF
 have hg := HG.out
 have hX := HX.out
 have hO := HM.out
 have z0 : ((z : Int) == 0) = false := by rw [hz]; rfl
 have z1 : ((z : Int) == 1) = false := by rw [hz]; rfl
 have z2 : ((z : Int) == 2) = false := by rw [hz]; rfl
 have z3 : ((z : Int) == 3) = false := by rw [hz]; rfl
 have z4 : ((z : Int) == 4) = true := by rw [hz]; rfl
 have z5 : ((z : Int) == 5) = false := by rw [hz]; rfl
 have z6 : ((z : Int) == 6) = false := by rw [hz]; rfl
 have z7 : ((z : Int) == 7) = false := by rw [hz]; rfl
 clear h hf hg hX hO
 go_enter Tryz.func72, Tryz.ntmps72
 go_wp2_with (first | refine b6 ?_ | (refine cP ?_; clear HM; intro w' HM) | (refine a4 ?_; clear HM; intro w' g' HM) | (go_at_call 144; have hco := Za (l := _ :: l) HM HG HX; (with_reducible refine (WB y hco).mono (Z2 ?_)); clear hco HM HF HG HX; intro w' X HF HG HX HM))
 go_ret
 have hco := Co.ok (l := _ :: l) HM.out HG.out HX.out
 exact ⟨rfl, Zb (hco.drop.less (by omega))⟩
theorem WI (x y z p q : Nat) (hz : z = 5) (h : Hid (Co W0 w c b s l (n + 4))) :
  CX 72 #[.pointer (some ⟨c, 0, none⟩), .agg #[.int .i64 (x : Int), .int .i64 (y : Int), .int .i64 (z : Int), .int .i64 (p : Int), .int .i64 (q : Int)]] w (.int .i64 ((s.countC y : Nat) : Int)) fun w' => Hid (Co W0 w' c b (s.count (y : Int) true) l n) := by
 obtain ⟨X, hf, HF, HG, HX, HM⟩ := h.out.hif
 have HF0 := HF
 have hg := HG.out
 have hX := HX.out
 have hO := HM.out
 have z0 : ((z : Int) == 0) = false := by rw [hz]; rfl
 have z1 : ((z : Int) == 1) = false := by rw [hz]; rfl
 have z2 : ((z : Int) == 2) = false := by rw [hz]; rfl
 have z3 : ((z : Int) == 3) = false := by rw [hz]; rfl
 have z4 : ((z : Int) == 4) = false := by rw [hz]; rfl
 have z5 : ((z : Int) == 5) = true := by rw [hz]; rfl
 have z6 : ((z : Int) == 6) = false := by rw [hz]; rfl
 have z7 : ((z : Int) == 7) = false := by rw [hz]; rfl
 clear h hf hg hX hO
 go_enter Tryz.func72, Tryz.ntmps72
 go_wp2_with (first | refine b6 ?_ | (refine cP ?_; clear HM; intro w' HM) | (refine a4 ?_; clear HM; intro w' g' HM) | (go_at_call 144; have hco := Za (l := _ :: l) HM HG HX; (with_reducible refine (WC y hco).mono (Z2 ?_)); clear hco HM HF HG HX; intro w' X HF HG HX HM))
 go_ret
 have hco := Co.ok (l := _ :: l) HM.out HG.out HX.out
 exact ⟨rfl, Zb (hco.drop.less (by omega))⟩
theorem WJ (x y z p q : Nat) (hz : z = 6) (h : Hid (Co W0 w c b s l (n + 4))) :
  CX 72 #[.pointer (some ⟨c, 0, none⟩), .agg #[.int .i64 (x : Int), .int .i64 (y : Int), .int .i64 (z : Int), .int .i64 (p : Int), .int .i64 (q : Int)]] w (.int .i64 ((s.moveNextC y : Nat) : Int)) fun w' => Hid (Co W0 w' c b (s.moveNext y) l n) := by
 obtain ⟨X, hf, HF, HG, HX, HM⟩ := h.out.hif
 have HF0 := HF
 have hg := HG.out
 have hX := HX.out
 have hO := HM.out
 have z0 : ((z : Int) == 0) = false := by rw [hz]; rfl
 have z1 : ((z : Int) == 1) = false := by rw [hz]; rfl
 have z2 : ((z : Int) == 2) = false := by rw [hz]; rfl
 have z3 : ((z : Int) == 3) = false := by rw [hz]; rfl
 have z4 : ((z : Int) == 4) = false := by rw [hz]; rfl
 have z5 : ((z : Int) == 5) = false := by rw [hz]; rfl
 have z6 : ((z : Int) == 6) = true := by rw [hz]; rfl
 have z7 : ((z : Int) == 7) = false := by rw [hz]; rfl
 clear h hf hg hX hO
 go_enter Tryz.func72, Tryz.ntmps72
 go_wp2_with (first | refine b6 ?_ | (refine cP ?_; clear HM; intro w' HM) | (refine a4 ?_; clear HM; intro w' g' HM) | (go_at_call 147; have hco := Za (l := _ :: l) HM HG HX; (with_reducible refine (jb y hco).mono (Z2 ?_)); clear hco HM HF HG HX; intro w' X HF HG HX HM))
 go_ret
 have hco := Co.ok (l := _ :: l) HM.out HG.out HX.out
 exact ⟨rfl, Zb (hco.drop.less (by omega))⟩
theorem WK (x y z p q : Nat) (hz : z = 7) (hy : y < 8) (h : Hid (Co W0 w c b s l (n + 4))) :
  CX 72 #[.pointer (some ⟨c, 0, none⟩), .agg #[.int .i64 (x : Int), .int .i64 (y : Int), .int .i64 (z : Int), .int .i64 (p : Int), .int .i64 (q : Int)]] w (.int .i64 4) fun w' => Hid (Co W0 w' c b (s.quick y) l n) := by
 obtain ⟨X, hf, HF, HG, HX, HM⟩ := h.out.hif
 have HF0 := HF
 have hg := HG.out
 have hX := HX.out
 have hO := HM.out
 have z0 : ((z : Int) == 0) = false := by rw [hz]; rfl
 have z1 : ((z : Int) == 1) = false := by rw [hz]; rfl
 have z2 : ((z : Int) == 2) = false := by rw [hz]; rfl
 have z3 : ((z : Int) == 3) = false := by rw [hz]; rfl
 have z4 : ((z : Int) == 4) = false := by rw [hz]; rfl
 have z5 : ((z : Int) == 5) = false := by rw [hz]; rfl
 have z6 : ((z : Int) == 6) = false := by rw [hz]; rfl
 have z7 : ((z : Int) == 7) = true := by rw [hz]; rfl
 clear h hf hg hX hO
 go_enter Tryz.func72, Tryz.ntmps72
 go_wp2_with (first | refine b6 ?_ | (refine cP ?_; clear HM; intro w' HM) | (refine a4 ?_; clear HM; intro w' g' HM) | (go_at_call 148; have hco := Za (l := _ :: l) HM HG HX; (with_reducible refine (Zb5 y hy hco).mono (Z2 ?_)); clear hco HM HF HG HX; intro w' X HF HG HX HM))
 go_ret
 have hco := Co.ok (l := _ :: l) HM.out HG.out HX.out
 exact ⟨rfl, Zb (hco.drop.less (by omega))⟩
theorem UL (hT : Hid (Tabs W0)) (x y z p q : Nat) (hx : x = 0) (hy : y < 8) (hz : z < 8) (hp : y / 2 = p) (hq : y % 2 = q) (h : Hid (Co W0 w c b s l (n + 4))) :
  CX 72 #[.pointer (some ⟨c, 0, none⟩), .agg #[.int .i64 (x : Int), .int .i64 (y : Int), .int .i64 (z : Int), .int .i64 (p : Int), .int .i64 (q : Int)]] w (.int .i64 ((s.plain0C y z : Nat) : Int)) fun w' => Hid (Co W0 w' c b (s.plain0 y z) l n) := by
 by_cases h0 : z = 0
 ·have e2 : s.plain0 y z = s.starts y := if_pos (by omega)
  have e3 : s.plain0C y z = s.startsC y := if_pos (by omega)
  rw [e2, e3]; exact WE x y z p q h0 hT hy h
 by_cases h2 : z = 2
 ·have e2 : s.plain0 y z = s.moveFar y := (if_neg (by omega)).trans ((if_neg (by omega)).trans (if_pos (by omega)))
  have e3 : s.plain0C y z = Cs.moveFarC y := (if_neg (by omega)).trans ((if_neg (by omega)).trans (if_pos (by omega)))
  rw [e2, e3]; subst hx h2; rw [show ((0 : Nat) : Int) = 0 from rfl, show ((2 : Nat) : Int) = 2 from rfl]; exact WF y p q hy hp hq h
 by_cases h3 : z = 3
 ·have e2 : s.plain0 y z = s.countPair y := (if_neg (by omega)).trans ((if_neg (by omega)).trans ((if_neg (by omega)).trans (if_pos (by omega))))
  have e3 : s.plain0C y z = 6 := (if_neg (by omega)).trans ((if_neg (by omega)).trans ((if_neg (by omega)).trans (if_pos (by omega))))
  rw [e2, e3]; subst h3; rw [show ((3 : Nat) : Int) = 3 from rfl]; exact WG x y p q hp hq h
 by_cases h4 : z = 4
 ·have e2 : s.plain0 y z = s.count y false := (if_neg (by omega)).trans ((if_neg (by omega)).trans ((if_neg (by omega)).trans ((if_neg (by omega)).trans (if_pos (by omega)))))
  have e3 : s.plain0C y z = s.countC y := (if_neg (by omega)).trans ((if_neg (by omega)).trans ((if_neg (by omega)).trans ((if_neg (by omega)).trans (if_pos (by omega)))))
  rw [e2, e3]; exact WH x y z p q h4 h
 by_cases h5 : z = 5
 ·have e2 : s.plain0 y z = s.count y true := (if_neg (by omega)).trans ((if_neg (by omega)).trans ((if_neg (by omega)).trans ((if_neg (by omega)).trans ((if_neg (by omega)).trans (if_pos (by omega))))))
  have e3 : s.plain0C y z = s.countC y := (if_neg (by omega)).trans ((if_neg (by omega)).trans ((if_neg (by omega)).trans ((if_neg (by omega)).trans ((if_neg (by omega)).trans (if_pos (by omega))))))
  rw [e2, e3]; exact WI x y z p q h5 h
 by_cases h6 : z = 6
 ·have e2 : s.plain0 y z = s.moveNext y := (if_neg (by omega)).trans ((if_neg (by omega)).trans ((if_neg (by omega)).trans ((if_neg (by omega)).trans ((if_neg (by omega)).trans ((if_neg (by omega)).trans (if_pos (by omega)))))))
  have e3 : s.plain0C y z = s.moveNextC y := (if_neg (by omega)).trans ((if_neg (by omega)).trans ((if_neg (by omega)).trans ((if_neg (by omega)).trans ((if_neg (by omega)).trans ((if_neg (by omega)).trans (if_pos (by omega)))))))
  rw [e2, e3]; exact WJ x y z p q h6 h
 by_cases h1 : z = 1
 ·by_cases h8 : q = 0
  ·have e2 : s.plain0 y z = s.nextNum.setPair (y / 2 : Nat) s.nextNumV := (if_neg (by omega)).trans ((if_pos h1).trans (if_pos (by omega)))
   have e3 : s.plain0C y z = 10 := (if_neg (by omega)).trans ((if_pos h1).trans (if_pos (by omega)))
   rw [e2, e3, hp]
   subst h8
   rw [show ((0 : Nat) : Int) = 0 from rfl]
   exact UJ x y z p h1 h
  ·have e2 : s.plain0 y z = s.addPair (y / 2 : Nat) := (if_neg (by omega)).trans ((if_pos h1).trans (if_neg (by omega)))
   have e3 : s.plain0C y z = 11 := (if_neg (by omega)).trans ((if_pos h1).trans (if_neg (by omega)))
   rw [e2, e3, hp]
   exact UK x y z p q h1 h8 h
 have h7 : z = 7 := by omega
 have e2 : s.plain0 y z = s.quick y := (if_neg (by omega)).trans ((if_neg (by omega)).trans ((if_neg (by omega)).trans ((if_neg (by omega)).trans ((if_neg (by omega)).trans ((if_neg (by omega)).trans (if_neg (by omega)))))))
 have e3 : s.plain0C y z = 4 := (if_neg (by omega)).trans ((if_neg (by omega)).trans ((if_neg (by omega)).trans ((if_neg (by omega)).trans ((if_neg (by omega)).trans ((if_neg (by omega)).trans (if_neg (by omega)))))))
 rw [e2, e3]; exact WK x y z p q h7 hy h
theorem ZkH (p v : Nat) (hp : p < 65536) (hv : v < 256) (h : Hid (Co W0 w c b s l (n + 1))) :
  Calls Tryz.prog 246 #[.pointer (some ⟨b, 0, none⟩), .int .u16 (p : Int), .int .u8 (v : Int), .int .i64 8] w fun e w' => e = .returned (.tuple #[]) ∧ Hid (Co W0 w' c b (s.op p v 8) l n) := Zhu p v 8 hp hv (by decide) h
theorem ZkI (p : Nat) (hp : p < 65536) (h : Hid (Co W0 w c b s l (n + 1))) :
  Calls Tryz.prog 245 #[.pointer (some ⟨b, 0, none⟩), .int .u16 (p : Int), .int .i64 8] w fun e w' => e = .returned (.int .u8 (s.ipV p 8 : Int)) ∧ Hid (Co W0 w' c b (s.ip p 8) l n) := Zhv p 8 hp (by decide) h
theorem ZkJ (p v : Nat) (hp : p < 65536) (hv : v < 256) (h : Hid (Co W0 w c b s l (n + 1))) :
  Calls Tryz.prog 246 #[.pointer (some ⟨b, 0, none⟩), .int .u16 (p : Int), .int .u8 (v : Int), .int .i64 9] w fun e w' => e = .returned (.tuple #[]) ∧ Hid (Co W0 w' c b (s.op p v 9) l n) := Zhu p v 9 hp hv (by decide) h
theorem ZkK (p : Nat) (hp : p < 65536) (h : Hid (Co W0 w c b s l (n + 1))) :
  Calls Tryz.prog 245 #[.pointer (some ⟨b, 0, none⟩), .int .u16 (p : Int), .int .i64 9] w fun e w' => e = .returned (.int .u8 (s.ipV p 9 : Int)) ∧ Hid (Co W0 w' c b (s.ip p 9) l n) := Zhv p 9 hp (by decide) h
theorem ZhG (p v : Nat) (hp : p < 65536) (hv : v < 256) (h : Hid (Co W0 w c b s l (n + 1))) :
  Calls Tryz.prog 246 #[.pointer (some ⟨b, 0, none⟩), .int .u16 (p : Int), .int .u8 (v : Int), .int .i64 13] w fun e w' => e = .returned (.tuple #[]) ∧ Hid (Co W0 w' c b (s.op p v 13) l n) := Zhu p v 13 hp hv (by decide) h
theorem ZhH (p : Nat) (hp : p < 65536) (h : Hid (Co W0 w c b s l (n + 1))) :
  Calls Tryz.prog 245 #[.pointer (some ⟨b, 0, none⟩), .int .u16 (p : Int), .int .i64 13] w fun e w' => e = .returned (.int .u8 (s.ipV p 13 : Int)) ∧ Hid (Co W0 w' c b (s.ip p 13) l n) := Zhv p 13 hp (by decide) h
theorem Zag (h : Hid (Co W0 w c b s l (n + 2))) :
  CX 208 #[.pointer (some ⟨c, 0, none⟩)] w (.int .i64 11) fun w' => Hid (Co W0 w' c b (s.outNext) l n) := by
 obtain ⟨X, hf, HF, HG, HX, HM⟩ := h.out.hif
 have HF0 := HF
 have hg := HG.out
 have hX := HX.out
 have hO := HM.out
 have v1 : s.nextV < 256 := hf.m _
 obtain ⟨V, hV⟩ : ∃ x, Hid (s.nextV = x) := ⟨_, rfl⟩
 obtain ⟨lo, hlo⟩ : ∃ x, Hid ((V + 1) % 256 = x) := ⟨_, rfl⟩
 have a1 : s.next.r.a < 256 := hf.r.a
 obtain ⟨p, hp⟩ : ∃ x, Hid (s.next.r.a * 256 + V = x) := ⟨_, rfl⟩
 obtain ⟨J, hJ⟩ : ∃ x, Hid (s.next.r.a * 256 + lo = x) := ⟨_, rfl⟩
 have E : s.outNext = (s.next.op p s.next.r.a 8).setWZ J := by unfold Cs.outNext; rw [hV.out, hlo.out, ← hp.out, ← hJ.out]; rfl
 rw [E]
 rw [hV.out] at v1
 have p1 : p < 65536 := by rw [← hp.out]; omega
 have lo1 : lo < 256 := by rw [← hlo.out]; exact Nat.mod_lt _ (by decide)
 have e1 : IntKind.u8.wrap ((V : Int) + 1) = (lo : Int) := by rw [← hlo.out]; show ((V : Int) + 1) % 256 = _; omega
 have J1 : J < 65536 := by rw [← hJ.out]; omega
 clear E h hf hg hX hO
 have hmOut : ∀ w : World, (method 296 29 (.pointer (some ⟨b, 0, none⟩)) "Out").run Tryz.prog w = .ok (246, .pointer (some ⟨b, 0, none⟩)) w := fun _ => by kernel_rfl
 go_enter Tryz.func208, Tryz.ntmps208
 go_upto_region 2 with (first | refine cG ?_ | (refine cP ?_; clear HM; intro w' HM) | (go_at_call 62; have hco := Za HM HG HX; (with_reducible refine (Yy hco).mono (coK ?_)); clear hco HM HF HG HX; intro w' X HF HG HX HM; rw [hV.out]))
 (refine Zk 18 HM (by kernel_rfl) (by kernel_rfl) (by kernel_rfl) ?_; simp only [List.take_succ_cons, List.take_zero, List.drop_succ_cons, List.drop_zero]; (try simp only [Act.put, Ze, Zc, Zd]); repeat ((fail_if_success (with_reducible refine wpQuiet_nil ?_)); first | go_big_quiet_skip | (go_big_quiet_want; first | (refine a15 ?_; go_big_quiet_op; go_big_quiet_on) | (refine a16 ?_; go_big_quiet_op; go_big_quiet_on) | ((with_reducible apply Zh); exact fun w => rfl; (focus (go_simp; all_goals with_reducible rfl)); (intro wq HQ; first | (with_reducible exact (YF _ V p HF.out.r.a v1 hp _).mono fun _ _ ⟨he, hw⟩ => ⟨he, hw ▸ Below.refl _ _⟩)); go_big_quiet_op; go_big_quiet_on) | (go_big_quiet_op; go_big_quiet_on) | (go_big_quiet_op; refine ⟨_, fun _ _ => rfl, ?_⟩; go_big_quiet_on))))
 refine wpQuiet_nil ?_
 intro w' HM'
 clear HM; have HM := HM'; clear HM'
 go_wp2_with (first | refine cG ?_ | (refine cP ?_; clear HM; intro w' HM) | (go_at_call 246; have hco := Za HM HG HX; (with_reducible refine (ZkH _ _ p1 HF.out.r.a hco).mono (coK ?_)); clear hco HM HF HG HX; intro w' X HF HG HX HM) | (go_at_call 117; (with_reducible refine (YF _ lo J HF.out.r.a lo1 hJ _).mono ?_); rintro e w' ⟨rfl, rfl⟩))
 go_ret
 have hco := Co.ok HM.out HG.out HX.out
 exact ⟨rfl, Zb hco⟩
theorem Zb7 (h : Hid (Co W0 w c b s l (n + 2))) :
  CX 209 #[.pointer (some ⟨c, 0, none⟩)] w (.int .i64 11) fun w' => Hid (Co W0 w' c b (s.inNext) l n) := by
 obtain ⟨X, hf, HF, HG, HX, HM⟩ := h.out.hif
 have HF0 := HF
 have hg := HG.out
 have hX := HX.out
 have hO := HM.out
 have v1 : s.nextV < 256 := hf.m _
 obtain ⟨a, ha⟩ : ∃ x, Hid (s.r.a = x) := ⟨_, rfl⟩
 have a1 : a < 256 := by rw [← ha.out]; exact hf.r.a
 obtain ⟨p, hp⟩ : ∃ x, Hid (a * 256 + s.nextV = x) := ⟨_, rfl⟩
 have p1 : p < 65536 := by rw [← hp.out]; omega
 have i1 : s.next.ipV p 8 < 256 := Nat.mod_lt _ (by decide)
 have E : s.inNext = ((s.next.ip p 8).setA (s.next.ipV p 8)).setWZ (up1 p) := by unfold Cs.inNext; rw [← hp.out, ← ha.out]
 rw [E]
 have e1 : IntKind.u16.wrap ((p : Int) + 1) = ((up1 p : Nat) : Int) := by unfold up1; show ((p : Int) + 1) % 65536 = _; omega
 clear E h hf hg hX hO
 have hmIn : ∀ w : World, (method 296 29 (.pointer (some ⟨b, 0, none⟩)) "In").run Tryz.prog w = .ok (245, .pointer (some ⟨b, 0, none⟩)) w := fun _ => by kernel_rfl
 go_enter Tryz.func209, Tryz.ntmps209
 go_upto_region 1 with fail
 have HM' := Zb HM.out.drew
 clear HM; have HM := HM'; clear HM'
 have c0 : w.drew.cell? ⟨c, 0, none⟩ = some (.int .u8 (a : Int)) := (HM.out.cells_at .z 0 _ rfl).trans (congrArg (fun x : Nat => some (Value.int .u8 (x : Int))) ha.out)
 go_region_with (first | (go_at_call 62; have hco := Za HM HG HX; (with_reducible refine (Yy hco).mono (coK ?_)); clear hco HM HF HG HX; intro w' X HF HG HX HM; have c0 : w'.cell? ⟨c, 0, none⟩ = some (.int .u8 (a : Int)) := (HM.out.cells_at .z 0 _ rfl).trans (congrArg (fun x : Nat => some (Value.int .u8 (x : Int))) ha.out)) | (go_at_call 117; (with_reducible refine (YF a s.nextV p a1 v1 hp _).mono ?_); rintro e w' ⟨rfl, rfl⟩))
 all_goals go_wp2_with (first | refine cG ?_ | (refine cP ?_; clear HM; intro w' HM) | (go_at_call 245; have hco := Za HM HG HX; (with_reducible refine (ZkI p p1 hco).mono (coK ?_)); clear hco HM HF HG HX; intro w' X HF HG HX HM))
 all_goals go_ret
 all_goals have hco := Co.ok HM.out HG.out HX.out
 all_goals exact ⟨rfl, Zb (hco.less (by omega))⟩
theorem Zah (h : Hid (Co W0 w c b s l (n + 4))) :
  CX 210 #[.pointer (some ⟨c, 0, none⟩)] w (.int .i64 19) fun w' => Hid (Co W0 w' c b (s.swapTop) l n) := by
 obtain ⟨X, hf, HF, HG, HX, HM⟩ := h.out.hif
 have HF0 := HF
 have hg := HG.out
 have hX := HX.out
 have hO := HM.out
 have s1 : s.r.sp < 65536 := hf.r.sp
 have p1 : s.pair 2 < 65536 := Cs.pair_lt hf _
 have n1 : s.numV s.r.sp < 65536 := Cs.numV_lt hf _
 clear h hf hg hX hO
 go_enter Tryz.func210, Tryz.ntmps210
 go_wp2_with (first | refine cG ?_ | (refine cP ?_; clear HM; intro w' HM) | (go_at_call 67; (with_reducible refine (ZB .z HM HF.out _).mono ?_); rintro e w' ⟨rfl, hb⟩; replace HM := Zb (HM.out.call hb); clear hb) | (go_at_call 116; have hco := Za HM HG HX; (with_reducible refine (Jl _ s1 hco).mono (coK ?_)); clear hco HM HF HG HX; intro w' X HF HG HX HM) | (go_at_call 181; have hco := Za HM HG HX; (with_reducible refine (KM _ _ (Cs.setWZ_fits HF.out n1).r.sp p1 hco).mono (coK ?_)); clear hco HM HF HG HX; intro w' X HF HG HX HM) | (go_at_call 139; have hco := Za HM HG HX; (with_reducible refine (ZO _ _ HF.out.r.wz hco).mono (coK ?_)); clear hco HM HF HG HX; intro w' X HF HG HX HM))
 go_ret
 have hco := Co.ok HM.out HG.out HX.out
 exact ⟨rfl, Zb hco⟩
theorem ZhI (h : Hid (Co W0 w c b s l (n + 4))) :
  CX 158 #[.pointer (some ⟨c, 0, none⟩), .int .i64 0] w (.int .i64 10) fun w' => Hid (Co W0 w' c b (s.jumpTo true) l n) := by
 obtain ⟨X, HF, HG, HX, HM⟩ := h.out.hid
 have HF0 := HF
 clear h
 go_enter Tryz.func158, Tryz.ntmps158
 go_wp2_with (first | refine cG ?_ | (refine cP ?_; clear HM; intro w' HM) | (go_at_call 157; have hco := Za HM HG HX; (with_reducible refine (Wy hco).mono (coK ?_)); clear hco HM HF HG HX; intro w' X HF HG HX HM))
 go_ret
 have hco := Co.ok HM.out HG.out HX.out
 exact ⟨rfl, Zb (hco.less (by omega))⟩
theorem ZhJ (h : Hid (Co W0 w c b s l (n + 4))) :
  CX 158 #[.pointer (some ⟨c, 0, none⟩), .int .i64 2] w (.int .i64 11) fun w' => Hid (Co W0 w' c b (s.outNext) l n) := by
 obtain ⟨X, HF, HG, HX, HM⟩ := h.out.hid
 have HF0 := HF
 clear h
 go_enter Tryz.func158, Tryz.ntmps158
 go_wp2_with (first | refine cG ?_ | (refine cP ?_; clear HM; intro w' HM) | (go_at_call 208; have hco := Za HM HG HX; (with_reducible refine (Zag hco).mono (coK ?_)); clear hco HM HF HG HX; intro w' X HF HG HX HM))
 go_ret
 have hco := Co.ok HM.out HG.out HX.out
 exact ⟨rfl, Zb (hco.less (by omega))⟩
theorem ZhK (h : Hid (Co W0 w c b s l (n + 4))) :
  CX 158 #[.pointer (some ⟨c, 0, none⟩), .int .i64 3] w (.int .i64 11) fun w' => Hid (Co W0 w' c b (s.inNext) l n) := by
 obtain ⟨X, HF, HG, HX, HM⟩ := h.out.hid
 have HF0 := HF
 clear h
 go_enter Tryz.func158, Tryz.ntmps158
 go_wp2_with (first | refine cG ?_ | (refine cP ?_; clear HM; intro w' HM) | (go_at_call 209; have hco := Za HM HG HX; (with_reducible refine (Zb7 hco).mono (coK ?_)); clear hco HM HF HG HX; intro w' X HF HG HX HM))
 go_ret
 have hco := Co.ok HM.out HG.out HX.out
 exact ⟨rfl, Zb (hco.less (by omega))⟩
theorem ZhL (h : Hid (Co W0 w c b s l (n + 4))) :
  CX 158 #[.pointer (some ⟨c, 0, none⟩), .int .i64 4] w (.int .i64 19) fun w' => Hid (Co W0 w' c b (s.swapTop) l n) := by
 obtain ⟨X, HF, HG, HX, HM⟩ := h.out.hid
 have HF0 := HF
 clear h
 go_enter Tryz.func158, Tryz.ntmps158
 go_wp2_with (first | refine cG ?_ | (refine cP ?_; clear HM; intro w' HM) | (go_at_call 210; have hco := Za HM HG HX; (with_reducible refine (Zah hco).mono (coK ?_)); clear hco HM HF HG HX; intro w' X HF HG HX HM))
 go_ret
 have hco := Co.ok HM.out HG.out HX.out
 exact ⟨rfl, Zb (hco.less (by omega))⟩
theorem ZhM (h : Hid (Co W0 w c b s l (n + 4))) :
  CX 158 #[.pointer (some ⟨c, 0, none⟩), .int .i64 6] w (.int .i64 4) fun w' => Hid (Co W0 w' c b ((s.setQ1 false).setQ2 false) l n) := by
 obtain ⟨X, HF, HG, HX, HM⟩ := h.out.hid
 have HF0 := HF
 clear h
 go_enter Tryz.func158, Tryz.ntmps158
 go_wp2_with (first | refine cG ?_ | (refine cP ?_; clear HM; intro w' HM))
 go_ret
 have hco := Co.ok HM.out HG.out HX.out
 exact ⟨rfl, Zb (hco.less (by omega))⟩
theorem ZhN (h : Hid (Co W0 w c b s l (n + 4))) :
  CX 158 #[.pointer (some ⟨c, 0, none⟩), .int .i64 7] w (.int .i64 4) fun w' => Hid (Co W0 w' c b (((s.setQ1 true).setQ2 true).setDL true) l n) := by
 obtain ⟨X, HF, HG, HX, HM⟩ := h.out.hid
 have HF0 := HF
 clear h
 go_enter Tryz.func158, Tryz.ntmps158
 go_wp2_with (first | refine cG ?_ | (refine cP ?_; clear HM; intro w' HM))
 go_ret
 have hco := Co.ok HM.out HG.out HX.out
 exact ⟨rfl, Zb (hco.less (by omega))⟩
theorem Zb8 (h : Hid (Co W0 w c b s l (n + 2))) :
  CX 156 #[.pointer (some ⟨c, 0, none⟩), .int .i64 0] w (.int .i64 10) fun w' => Hid (Co W0 w' c b (s.back) l n) := by
 obtain ⟨X, HF, HG, HX, HM⟩ := h.out.hid
 have HF0 := HF
 clear h
 go_enter Tryz.func156, Tryz.ntmps156
 go_wp2_with (first | refine cG ?_ | (refine cP ?_; clear HM; intro w' HM) | (go_at_call 124; have hco := Za HM HG HX; (with_reducible refine (Z9 hco).mono (coK ?_)); clear hco HM HF HG HX; intro w' X HF HG HX HM))
 go_ret
 have hco := Co.ok HM.out HG.out HX.out
 exact ⟨rfl, Zb (hco.less (by omega))⟩
theorem Zb9 (h : Hid (Co W0 w c b s l (n + 2))) :
  CX 156 #[.pointer (some ⟨c, 0, none⟩), .int .i64 1] w (.int .i64 4) fun w' => Hid (Co W0 w' c b (s.setR (s.r.swap true)) l n) := by
 obtain ⟨X, hf, HF, HG, HX, HM⟩ := h.out.hif
 have HF0 := HF
 have hg := HG.out
 have hX := HX.out
 have hO := HM.out
 have hR : (s.r.swap true).Fits := Rg.swap_fits hf.r _
 clear h hf hg hX hO
 go_enter Tryz.func156, Tryz.ntmps156
 go_wp2_with (first | refine cG ?_ | (refine cP ?_; clear HM; intro w' HM) | (go_at_call 197; (with_reducible refine (ZbS _ _).mono ?_); rintro e w' ⟨rfl, hb⟩; replace HM := Zb (HM.out.call hb); clear hb))
 go_ret
 have hco := Co.ok HM.out HG.out HX.out
 exact ⟨rfl, Zb (hco.less (by omega))⟩
theorem Zca (h : Hid (Co W0 w c b s l (n + 2))) :
  CX 156 #[.pointer (some ⟨c, 0, none⟩), .int .i64 2] w (.int .i64 4) fun w' => Hid (Co W0 w' c b (s.setPC (s.pair 2)) l n) := by
 obtain ⟨X, hf, HF, HG, HX, HM⟩ := h.out.hif
 have HF0 := HF
 have hg := HG.out
 have hX := HX.out
 have hO := HM.out
 have p1 : s.pair 2 < 65536 := Cs.pair_lt hf _
 clear h hf hg hX hO
 go_enter Tryz.func156, Tryz.ntmps156
 go_wp2_with (first | refine cG ?_ | (refine cP ?_; clear HM; intro w' HM) | (go_at_call 67; (with_reducible refine (ZB .z HM HF.out _).mono ?_); rintro e w' ⟨rfl, hb⟩; replace HM := Zb (HM.out.call hb); clear hb))
 go_ret
 have hco := Co.ok HM.out HG.out HX.out
 exact ⟨rfl, Zb (hco.less (by omega))⟩
theorem Zcb (h : Hid (Co W0 w c b s l (n + 2))) :
  CX 156 #[.pointer (some ⟨c, 0, none⟩), .int .i64 3] w (.int .i64 6) fun w' => Hid (Co W0 w' c b (s.setSP (s.pair 2)) l n) := by
 obtain ⟨X, hf, HF, HG, HX, HM⟩ := h.out.hif
 have HF0 := HF
 have hg := HG.out
 have hX := HX.out
 have hO := HM.out
 have p1 : s.pair 2 < 65536 := Cs.pair_lt hf _
 clear h hf hg hX hO
 go_enter Tryz.func156, Tryz.ntmps156
 go_wp2_with (first | refine cG ?_ | (refine cP ?_; clear HM; intro w' HM) | (go_at_call 67; (with_reducible refine (ZB .z HM HF.out _).mono ?_); rintro e w' ⟨rfl, hb⟩; replace HM := Zb (HM.out.call hb); clear hb))
 go_ret
 have hco := Co.ok HM.out HG.out HX.out
 exact ⟨rfl, Zb (hco.less (by omega))⟩
end
end Go.Proofs.YtgdeeiimkhjfiaaGreatDoor
