import Derived.Test.YtgdeeiimkhjfiaaGreatDoorV15
set_option maxRecDepth 100000
set_option maxHeartbeats 6400000
namespace Go.Proofs.YtgdeeiimkhjfiaaGreatDoor
open Go.RowKit
section
variable {W0 w : World} {x b tq n c : Nat} {s : Cs} {ix : Bool} {pg : Int} {l : Zj}
theorem Zck (x y z p q : Nat) (hz : z = 0) (h : Hid (Co W0 w c b s l (n + 4))) :
  CX 63 #[.pointer (some ⟨c, 0, none⟩), .agg #[.int .i64 (x : Int), .int .i64 (y : Int), .int .i64 (z : Int), .int .i64 (p : Int), .int .i64 (q : Int)]] w (.int .i64 12) fun w' => Hid (Co W0 w' c b (s.inOne (y : Nat)) l n) := by
 obtain ⟨X, hf, HF, HG, HX, HM⟩ := h.out.hif
 have HF0 := HF
 have hg := HG.out
 have hX := HX.out
 have hO := HM.out
 have z0 : ((z : Int) == 0) = true := by rw [hz]; rfl
 have z1 : ((z : Int) == 1) = false := by rw [hz]; rfl
 have z2 : ((z : Int) == 2) = false := by rw [hz]; rfl
 have z3 : ((z : Int) == 3) = false := by rw [hz]; rfl
 have z4 : ((z : Int) == 4) = false := by rw [hz]; rfl
 have z5 : ((z : Int) == 5) = false := by rw [hz]; rfl
 have z6 : ((z : Int) == 6) = false := by rw [hz]; rfl
 have z7 : ((z : Int) == 7) = false := by rw [hz]; rfl
 clear h hf hg hX hO
 go_enter Tryz.func63, Tryz.ntmps63
 go_wp2_with (first | refine b6 ?_ | (refine cP ?_; clear HM; intro w' HM) | (refine a4 ?_; clear HM; intro w' g' HM) | (go_at_call 119; have hco := Za (l := _ :: l) HM HG HX; (with_reducible refine (ZeT y hco).mono (Z2 ?_)); clear hco HM HF HG HX; intro w' X HF HG HX HM))
 go_ret
 have hco := Co.ok (l := _ :: l) HM.out HG.out HX.out
 exact ⟨rfl, Zb (hco.drop.less (by omega))⟩
theorem Zcl (x y z p q : Nat) (hz : z = 1) (h : Hid (Co W0 w c b s l (n + 4))) :
  CX 63 #[.pointer (some ⟨c, 0, none⟩), .agg #[.int .i64 (x : Int), .int .i64 (y : Int), .int .i64 (z : Int), .int .i64 (p : Int), .int .i64 (q : Int)]] w (.int .i64 12) fun w' => Hid (Co W0 w' c b (s.outOne (y : Nat)) l n) := by
 obtain ⟨X, hf, HF, HG, HX, HM⟩ := h.out.hif
 have HF0 := HF
 have hg := HG.out
 have hX := HX.out
 have hO := HM.out
 have z0 : ((z : Int) == 0) = false := by rw [hz]; rfl
 have z1 : ((z : Int) == 1) = true := by rw [hz]; rfl
 have z2 : ((z : Int) == 2) = false := by rw [hz]; rfl
 have z3 : ((z : Int) == 3) = false := by rw [hz]; rfl
 have z4 : ((z : Int) == 4) = false := by rw [hz]; rfl
 have z5 : ((z : Int) == 5) = false := by rw [hz]; rfl
 have z6 : ((z : Int) == 6) = false := by rw [hz]; rfl
 have z7 : ((z : Int) == 7) = false := by rw [hz]; rfl
 clear h hf hg hX hO
 go_enter Tryz.func63, Tryz.ntmps63
 go_wp2_with (first | refine b6 ?_ | (refine cP ?_; clear HM; intro w' HM) | (refine a4 ?_; clear HM; intro w' g' HM) | (go_at_call 120; have hco := Za (l := _ :: l) HM HG HX; (with_reducible refine (Zcd y hco).mono (Z2 ?_)); clear hco HM HF HG HX; intro w' X HF HG HX HM))
 go_ret
 have hco := Co.ok (l := _ :: l) HM.out HG.out HX.out
 exact ⟨rfl, Zb (hco.drop.less (by omega))⟩
theorem WS (x y p : Nat) (h : Hid (Co W0 w c b s l (n))) :
  CX 121 #[.pointer (some ⟨c, 0, none⟩), .agg #[.int .i64 (x : Int), .int .i64 (y : Int), .int .i64 2, .int .i64 (p : Int), .int .i64 0]] w (.int .i64 15) fun w' => Hid (Co W0 w' c b (s.carryPair false (p : Int)) l n) := by
 exact jj x y 2 p h
theorem Zap (x y p : Nat) (h : Hid (Co W0 w c b s l (n + 4))) :
  CX 63 #[.pointer (some ⟨c, 0, none⟩), .agg #[.int .i64 (x : Int), .int .i64 (y : Int), .int .i64 2, .int .i64 (p : Int), .int .i64 0]] w (.int .i64 15) fun w' => Hid (Co W0 w' c b (s.carryPair false (p : Nat)) l n) := by
 obtain ⟨X, HF, HG, HX, HM⟩ := h.out.hid
 have HF0 := HF
 clear h
 go_enter Tryz.func63, Tryz.ntmps63
 go_wp2_with (first | refine b6 ?_ | (refine cP ?_; clear HM; intro w' HM) | (refine a4 ?_; clear HM; intro w' g' HM) | (go_at_call 121; have hco := Za (l := _ :: l) HM HG HX; (with_reducible refine (WS x y p hco).mono (Z2 ?_)); clear hco HM HF HG HX; intro w' X HF HG HX HM))
 go_ret
 have hco := Co.ok (l := _ :: l) HM.out HG.out HX.out
 exact ⟨rfl, Zb (hco.drop.less (by omega))⟩
theorem WT (x y p : Nat) (h : Hid (Co W0 w c b s l (n))) :
  CX 121 #[.pointer (some ⟨c, 0, none⟩), .agg #[.int .i64 (x : Int), .int .i64 (y : Int), .int .i64 2, .int .i64 (p : Int), .int .i64 1]] w (.int .i64 15) fun w' => Hid (Co W0 w' c b (s.carryPair true (p : Int)) l n) := by
 exact jk x y 2 p h
theorem Zaq (x y p : Nat) (h : Hid (Co W0 w c b s l (n + 4))) :
  CX 63 #[.pointer (some ⟨c, 0, none⟩), .agg #[.int .i64 (x : Int), .int .i64 (y : Int), .int .i64 2, .int .i64 (p : Int), .int .i64 1]] w (.int .i64 15) fun w' => Hid (Co W0 w' c b (s.carryPair true (p : Nat)) l n) := by
 obtain ⟨X, HF, HG, HX, HM⟩ := h.out.hid
 have HF0 := HF
 clear h
 go_enter Tryz.func63, Tryz.ntmps63
 go_wp2_with (first | refine b6 ?_ | (refine cP ?_; clear HM; intro w' HM) | (refine a4 ?_; clear HM; intro w' g' HM) | (go_at_call 121; have hco := Za (l := _ :: l) HM HG HX; (with_reducible refine (WT x y p hco).mono (Z2 ?_)); clear hco HM HF HG HX; intro w' X HF HG HX HM))
 go_ret
 have hco := Co.ok (l := _ :: l) HM.out HG.out HX.out
 exact ⟨rfl, Zb (hco.drop.less (by omega))⟩
theorem Zcm (x y z p q : Nat) (hz : z = 3) (h : Hid (Co W0 w c b s l (n + 4))) :
  CX 63 #[.pointer (some ⟨c, 0, none⟩), .agg #[.int .i64 (x : Int), .int .i64 (y : Int), .int .i64 (z : Int), .int .i64 (p : Int), .int .i64 (q : Int)]] w (.int .i64 20) fun w' => Hid (Co W0 w' c b (s.movePair q (p : Nat)) l n) := by
 obtain ⟨X, hf, HF, HG, HX, HM⟩ := h.out.hif
 have HF0 := HF
 have hg := HG.out
 have hX := HX.out
 have hO := HM.out
 have z0 : ((z : Int) == 0) = false := by rw [hz]; rfl
 have z1 : ((z : Int) == 1) = false := by rw [hz]; rfl
 have z2 : ((z : Int) == 2) = false := by rw [hz]; rfl
 have z3 : ((z : Int) == 3) = true := by rw [hz]; rfl
 have z4 : ((z : Int) == 4) = false := by rw [hz]; rfl
 have z5 : ((z : Int) == 5) = false := by rw [hz]; rfl
 have z6 : ((z : Int) == 6) = false := by rw [hz]; rfl
 have z7 : ((z : Int) == 7) = false := by rw [hz]; rfl
 clear h hf hg hX hO
 go_enter Tryz.func63, Tryz.ntmps63
 go_wp2_with (first | refine b6 ?_ | (refine cP ?_; clear HM; intro w' HM) | (refine a4 ?_; clear HM; intro w' g' HM) | (go_at_call 122; have hco := Za (l := _ :: l) HM HG HX; (with_reducible refine (Vs q _ hco).mono (Z2 ?_)); clear hco HM HF HG HX; intro w' X HF HG HX HM))
 go_ret
 have hco := Co.ok (l := _ :: l) HM.out HG.out HX.out
 exact ⟨rfl, Zb (hco.drop.less (by omega))⟩
theorem ZhV (a v f : Nat) (ha : a < 256) (hv : Hid (ZY 0 a 0 = v)) (hf : Hid (ZU 0 a 0 = f)) (w : World) :
  Calls Tryz.prog 123 #[.int .u8 0, .int .u8 (a : Int), .bool false] w fun e w' => e = .returned (.tuple #[.int .u8 (v : Int), .int .u8 (f : Int)]) ∧ w = w' := V2 0 a false v f (by decide) ha hv hf w
theorem Zcn (x y z p q : Nat) (hz : z = 4) (h : Hid (Co W0 w c b s l (n + 4))) :
  CX 63 #[.pointer (some ⟨c, 0, none⟩), .agg #[.int .i64 (x : Int), .int .i64 (y : Int), .int .i64 (z : Int), .int .i64 (p : Int), .int .i64 (q : Int)]] w (.int .i64 8) fun w' => Hid (Co W0 w' c b ((s.setA (ZY 0 s.r.a 0)).setF (ZU 0 s.r.a 0)) l n) := by
 obtain ⟨X, hf, HF, HG, HX, HM⟩ := h.out.hif
 have HF0 := HF
 have hg := HG.out
 have hX := HX.out
 have hO := HM.out
 have z0 : ((z : Int) == 0) = false := by rw [hz]; rfl
 have z1 : ((z : Int) == 1) = false := by rw [hz]; rfl
 have z2 : ((z : Int) == 2) = false := by rw [hz]; rfl
 have z3 : ((z : Int) == 3) = false := by rw [hz]; rfl
 have z4 : ((z : Int) == 4) = true := by rw [hz]; rfl
 have z5 : ((z : Int) == 5) = false := by rw [hz]; rfl
 have z6 : ((z : Int) == 6) = false := by rw [hz]; rfl
 have z7 : ((z : Int) == 7) = false := by rw [hz]; rfl
 have a1 : s.r.a < 256 := hf.r.a
 obtain ⟨A, hA⟩ : ∃ x, Hid (ZY 0 s.r.a 0 = x) := ⟨_, rfl⟩
 obtain ⟨B, hB⟩ : ∃ x, Hid (ZU 0 s.r.a 0 = x) := ⟨_, rfl⟩
 have A1 : A < 256 := by rw [← hA.out]; exact Yn _ _ _
 have B1 : B < 256 := by rw [← hB.out]; exact YM _ _ _
 rw [hA.out, hB.out]
 clear h hf hg hX hO
 go_enter Tryz.func63, Tryz.ntmps63
 go_wp2_with (first | refine b6 ?_ | (refine cP ?_; clear HM; intro w' HM) | (refine a4 ?_; clear HM; intro w' g' HM) | (go_at_call 123; (with_reducible refine (ZhV _ A B a1 hA hB _).mono ?_); rintro e w' ⟨rfl, rfl⟩))
 go_ret
 have hco := Co.ok (l := _ :: l) HM.out HG.out HX.out
 exact ⟨rfl, Zb (hco.drop.less (by omega))⟩
theorem Zco (x y z p q : Nat) (hz : z = 5) (h : Hid (Co W0 w c b s l (n + 4))) :
  CX 63 #[.pointer (some ⟨c, 0, none⟩), .agg #[.int .i64 (x : Int), .int .i64 (y : Int), .int .i64 (z : Int), .int .i64 (p : Int), .int .i64 (q : Int)]] w (.int .i64 14) fun w' => Hid (Co W0 w' c b (s.back.setQ1 s.r.q2) l n) := by
 obtain ⟨X, hf, HF, HG, HX, HM⟩ := h.out.hif
 have HF0 := HF
 have hg := HG.out
 have hX := HX.out
 have hO := HM.out
 have z0 : ((z : Int) == 0) = false := by rw [hz]; rfl
 have z1 : ((z : Int) == 1) = false := by rw [hz]; rfl
 have z2 : ((z : Int) == 2) = false := by rw [hz]; rfl
 have z3 : ((z : Int) == 3) = false := by rw [hz]; rfl
 have z4 : ((z : Int) == 4) = false := by rw [hz]; rfl
 have z5 : ((z : Int) == 5) = true := by rw [hz]; rfl
 have z6 : ((z : Int) == 6) = false := by rw [hz]; rfl
 have z7 : ((z : Int) == 7) = false := by rw [hz]; rfl
 clear h hf hg hX hO
 go_enter Tryz.func63, Tryz.ntmps63
 go_wp2_with (first | refine b6 ?_ | (refine cP ?_; clear HM; intro w' HM) | (refine a4 ?_; clear HM; intro w' g' HM) | (go_at_call 124; have hco := Za (l := _ :: l) HM HG HX; (with_reducible refine (Z9 hco).mono (Z2 ?_)); clear hco HM HF HG HX; intro w' X HF HG HX HM))
 go_ret
 have hco := Co.ok (l := _ :: l) HM.out HG.out HX.out
 exact ⟨rfl, Zb (hco.drop.less (by omega))⟩
theorem Zcp (x y z p q : Nat) (hz : z = 6) (hT : Hid (Tabs W0)) (h : Hid (Co W0 w c b s l (n + 4))) :
  CX 63 #[.pointer (some ⟨c, 0, none⟩), .agg #[.int .i64 (x : Int), .int .i64 (y : Int), .int .i64 (z : Int), .int .i64 (p : Int), .int .i64 (q : Int)]] w (.int .i64 8) fun w' => Hid (Co W0 w' c b (s.setIM (Cs.modeV y)) l n) := by
 obtain ⟨X, hf, HF, HG, HX, HM⟩ := h.out.hif
 have HF0 := HF
 have hg := HG.out
 have hX := HX.out
 have hO := HM.out
 have z0 : ((z : Int) == 0) = false := by rw [hz]; rfl
 have z1 : ((z : Int) == 1) = false := by rw [hz]; rfl
 have z2 : ((z : Int) == 2) = false := by rw [hz]; rfl
 have z3 : ((z : Int) == 3) = false := by rw [hz]; rfl
 have z4 : ((z : Int) == 4) = false := by rw [hz]; rfl
 have z5 : ((z : Int) == 5) = false := by rw [hz]; rfl
 have z6 : ((z : Int) == 6) = true := by rw [hz]; rfl
 have z7 : ((z : Int) == 7) = false := by rw [hz]; rfl
 obtain ⟨k, hk⟩ : ∃ k, y % 4 = k := ⟨_, rfl⟩
 have k4 : k < 4 := by omega
 have e1 : bits .and .i64 (y : Int) 3 = (k : Int) := by rw [yD]; omega
 obtain ⟨M, hM⟩ : ∃ M, Hid (Cs.modeV y = M) := ⟨_, rfl⟩
 have M1 : M < 256 := by rw [← hM.out]; unfold Cs.modeV; split; decide; split; decide; decide
 have em : modeTab.getD k 0 = (M : Int) := by rw [← hk, Zac y, hM.out]
 rw [hM.out]
 clear h hf hg hX hO
 go_enter Tryz.func63, Tryz.ntmps63
 go_upto_region 19 with (first | refine b6 ?_ | (refine cP ?_; clear HM; intro w' HM) | (refine a4 ?_; clear HM; intro w' g' HM))
 have ct := (Tabs.own hT HM).mode k k4
 rw [em] at ct
 go_wp2_with (first | refine b6 ?_ | (refine cP ?_; clear HM; intro w' HM) | (refine a4 ?_; clear HM; intro w' g' HM))
 go_ret
 have hco := Co.ok (l := _ :: l) HM.out HG.out HX.out
 exact ⟨rfl, Zb (hco.drop.less (by omega))⟩
theorem Zcq (x y z p q : Nat) (hz : z = 7) (h : Hid (Co W0 w c b s l (n + 4))) :
  CX 63 #[.pointer (some ⟨c, 0, none⟩), .agg #[.int .i64 (x : Int), .int .i64 (y : Int), .int .i64 (z : Int), .int .i64 (p : Int), .int .i64 (q : Int)]] w (.int .i64 ((Cs.oddC y : Nat) : Int)) fun w' => Hid (Co W0 w' c b (s.odd y) l n) := by
 obtain ⟨X, hf, HF, HG, HX, HM⟩ := h.out.hif
 have HF0 := HF
 have hg := HG.out
 have hX := HX.out
 have hO := HM.out
 have z0 : ((z : Int) == 0) = false := by rw [hz]; rfl
 have z1 : ((z : Int) == 1) = false := by rw [hz]; rfl
 have z2 : ((z : Int) == 2) = false := by rw [hz]; rfl
 have z3 : ((z : Int) == 3) = false := by rw [hz]; rfl
 have z4 : ((z : Int) == 4) = false := by rw [hz]; rfl
 have z5 : ((z : Int) == 5) = false := by rw [hz]; rfl
 have z6 : ((z : Int) == 6) = false := by rw [hz]; rfl
 have z7 : ((z : Int) == 7) = true := by rw [hz]; rfl
 clear h hf hg hX hO
 go_enter Tryz.func63, Tryz.ntmps63
 go_wp2_with (first | refine b6 ?_ | (refine cP ?_; clear HM; intro w' HM) | (refine a4 ?_; clear HM; intro w' g' HM) | (go_at_call 125; have hco := Za (l := _ :: l) HM HG HX; (with_reducible refine (ZkM y hco).mono (Z2 ?_)); clear hco HM HF HG HX; intro w' X HF HG HX HM))
 go_ret
 have hco := Co.ok (l := _ :: l) HM.out HG.out HX.out
 exact ⟨rfl, Zb (hco.drop.less (by omega))⟩
theorem Zar (hT : Hid (Tabs W0)) (x y z p q : Nat) (hz : z < 8) (hp : y / 2 = p) (hq : y % 2 = q) (h : Hid (Co W0 w c b s l (n + 4))) :
  CX 63 #[.pointer (some ⟨c, 0, none⟩), .agg #[.int .i64 (x : Int), .int .i64 (y : Int), .int .i64 (z : Int), .int .i64 (p : Int), .int .i64 (q : Int)]] w (.int .i64 ((Cs.rareOneC y z : Nat) : Int)) fun w' => Hid (Co W0 w' c b (s.rareOne y z) l n) := by
 by_cases h0 : z = 0
 ·have e2 : s.rareOne y z = s.inOne y := if_pos (by omega)
  have e3 : Cs.rareOneC y z = 12 := if_pos (by omega)
  rw [e2, e3]; exact Zck x y z p q h0 h
 by_cases h1 : z = 1
 ·have e2 : s.rareOne y z = s.outOne y := (if_neg (by omega)).trans (if_pos (by omega))
  have e3 : Cs.rareOneC y z = 12 := (if_neg (by omega)).trans (if_pos (by omega))
  rw [e2, e3]; exact Zcl x y z p q h1 h
 by_cases h3 : z = 3
 ·have e2 : s.rareOne y z = s.movePair (y % 2) (y / 2 : Nat) := (if_neg (by omega)).trans ((if_neg (by omega)).trans ((if_neg (by omega)).trans (if_pos (by omega))))
  have e3 : Cs.rareOneC y z = 20 := (if_neg (by omega)).trans ((if_neg (by omega)).trans ((if_neg (by omega)).trans (if_pos (by omega))))
  rw [e2, e3]; rw [hp, hq]; exact Zcm x y z p q h3 h
 by_cases h4 : z = 4
 ·have e2 : s.rareOne y z = (s.setA (ZY 0 s.r.a 0)).setF (ZU 0 s.r.a 0) := (if_neg (by omega)).trans ((if_neg (by omega)).trans ((if_neg (by omega)).trans ((if_neg (by omega)).trans (if_pos (by omega)))))
  have e3 : Cs.rareOneC y z = 8 := (if_neg (by omega)).trans ((if_neg (by omega)).trans ((if_neg (by omega)).trans ((if_neg (by omega)).trans (if_pos (by omega)))))
  rw [e2, e3]; exact Zcn x y z p q h4 h
 by_cases h5 : z = 5
 ·have e2 : s.rareOne y z = s.back.setQ1 s.r.q2 := (if_neg (by omega)).trans ((if_neg (by omega)).trans ((if_neg (by omega)).trans ((if_neg (by omega)).trans ((if_neg (by omega)).trans (if_pos (by omega))))))
  have e3 : Cs.rareOneC y z = 14 := (if_neg (by omega)).trans ((if_neg (by omega)).trans ((if_neg (by omega)).trans ((if_neg (by omega)).trans ((if_neg (by omega)).trans (if_pos (by omega))))))
  rw [e2, e3]; exact Zco x y z p q h5 h
 by_cases h6 : z = 6
 ·have e2 : s.rareOne y z = s.setIM (Cs.modeV y) := (if_neg (by omega)).trans ((if_neg (by omega)).trans ((if_neg (by omega)).trans ((if_neg (by omega)).trans ((if_neg (by omega)).trans ((if_neg (by omega)).trans (if_pos (by omega)))))))
  have e3 : Cs.rareOneC y z = 8 := (if_neg (by omega)).trans ((if_neg (by omega)).trans ((if_neg (by omega)).trans ((if_neg (by omega)).trans ((if_neg (by omega)).trans ((if_neg (by omega)).trans (if_pos (by omega)))))))
  rw [e2, e3]; exact Zcp x y z p q h6 hT h
 by_cases h2 : z = 2
 ·have e2 : s.rareOne y z = s.carryPair (decide (y % 2 ≠ 0)) (y / 2 : Nat) := (if_neg (by omega)).trans ((if_neg (by omega)).trans (if_pos (by omega)))
  have e3 : Cs.rareOneC y z = 15 := (if_neg (by omega)).trans ((if_neg (by omega)).trans (if_pos (by omega)))
  rw [e2, e3, hp, hq]
  by_cases h8 : q = 0
  ·subst h8
   subst h2
   rw [show ((0 : Nat) : Int) = 0 from rfl, show ((2 : Nat) : Int) = 2 from rfl]
   exact Zap x y p h
  ·obtain rfl : q = 1 := by omega
   subst h2
   rw [show ((1 : Nat) : Int) = 1 from rfl, show ((2 : Nat) : Int) = 2 from rfl]
   exact Zaq x y p h
 have h7 : z = 7 := by omega
 have e2 : s.rareOne y z = s.odd y := (if_neg (by omega)).trans ((if_neg (by omega)).trans ((if_neg (by omega)).trans ((if_neg (by omega)).trans ((if_neg (by omega)).trans ((if_neg (by omega)).trans (if_neg (by omega)))))))
 have e3 : Cs.rareOneC y z = Cs.oddC y := (if_neg (by omega)).trans ((if_neg (by omega)).trans ((if_neg (by omega)).trans ((if_neg (by omega)).trans ((if_neg (by omega)).trans ((if_neg (by omega)).trans (if_neg (by omega)))))))
 rw [e2, e3]; exact Zcq x y z p q h7 h
theorem Zas (hT : Hid (Tabs W0)) (y z p q : Nat) (hz : z < 8) (hp : y / 2 = p) (hq : y % 2 = q) (h : Hid (Co W0 w c b s l (n + 4))) :
  CX 63 #[.pointer (some ⟨c, 0, none⟩), .agg #[.int .i64 1, .int .i64 (y : Int), .int .i64 (z : Int), .int .i64 (p : Int), .int .i64 (q : Int)]] w (.int .i64 ((Cs.rareOneC y z : Nat) : Int)) fun w' => Hid (Co W0 w' c b (s.rareOne y z) l n) := by
 exact Zar hT 1 y z p q hz hp hq h
theorem ZeU (y z p q : Nat) (hT : Hid (Tabs W0)) (hz : z < 8) (hp : y / 2 = p) (hq : y % 2 = q) (h : Hid (Co W0 w c b s l (n + 4))) :
  CX 31 #[.pointer (some ⟨c, 0, none⟩), .agg #[.int .i64 1, .int .i64 (y : Int), .int .i64 (z : Int), .int .i64 (p : Int), .int .i64 (q : Int)]] w (.int .i64 ((Cs.rareOneC y z : Nat) : Int)) fun w' => Hid (Co W0 w' c b (s.rareOne y z) l n) := by
 obtain ⟨X, HF, HG, HX, HM⟩ := h.out.hid
 have HF0 := HF
 clear h
 go_enter Tryz.func31, Tryz.ntmps31
 go_wp2_with (first | refine b6 ?_ | (refine cP ?_; clear HM; intro w' HM) | (refine a4 ?_; clear HM; intro w' g' HM) | (go_at_call 63; have hco := Za (l := _ :: l) HM HG HX; (with_reducible refine (Zas hT y z p q hz hp hq hco).mono (Z2 ?_)); clear hco HM HF HG HX; intro w' X HF HG HX HM))
 go_ret
 have hco := Co.ok (l := _ :: l) HM.out HG.out HX.out
 exact ⟨rfl, Zb (hco.drop.less (by omega))⟩
theorem ZhW (y z p : Nat) (hz : z < 4) (hq : y % 2 = 0) (h : Hid (Co W0 w c b s l (n + 2))) :
  CX 64 #[.pointer (some ⟨c, 0, none⟩), .agg #[.int .i64 2, .int .i64 (y : Int), .int .i64 (z : Int), .int .i64 (p : Int), .int .i64 0]] w (.int .i64 ((s.manyC y z : Nat) : Int)) fun w' => Hid (Co W0 w' c b (s.many y z) l n) := by
 exact ZkN 2 y z p hz hq h
theorem js (y z p : Nat) (hy : 4 ≤ y) (hz : z < 4) (hq : y % 2 = 0) (h : Hid (Co W0 w c b s l (n + 4))) :
  CX 31 #[.pointer (some ⟨c, 0, none⟩), .agg #[.int .i64 2, .int .i64 (y : Int), .int .i64 (z : Int), .int .i64 (p : Int), .int .i64 0]] w (.int .i64 ((s.manyC y z : Nat) : Int)) fun w' => Hid (Co W0 w' c b (s.many y z) l n) := by
 obtain ⟨X, hf, HF, HG, HX, HM⟩ := h.out.hif
 have HF0 := HF
 have hg := HG.out
 have hX := HX.out
 have hO := HM.out
 have y4 : (4 : Int) ≤ (y : Int) := by omega
 have z4 : (z : Int) < 4 := by omega
 clear h hf hg hX hO
 go_enter Tryz.func31, Tryz.ntmps31
 go_wp2_with (first | refine b6 ?_ | (refine cP ?_; clear HM; intro w' HM) | (refine a4 ?_; clear HM; intro w' g' HM) | (go_at_call 64; have hco := Za (l := _ :: l) HM HG HX; (with_reducible refine (ZhW y z p hz hq hco).mono (Z2 ?_)); clear hco HM HF HG HX; intro w' X HF HG HX HM))
 go_ret
 have hco := Co.ok (l := _ :: l) HM.out HG.out HX.out
 exact ⟨rfl, Zb (hco.drop.less (by omega))⟩
theorem ZhX (y z p : Nat) (hz : z < 4) (hq : y % 2 = 1) (h : Hid (Co W0 w c b s l (n + 2))) :
  CX 64 #[.pointer (some ⟨c, 0, none⟩), .agg #[.int .i64 2, .int .i64 (y : Int), .int .i64 (z : Int), .int .i64 (p : Int), .int .i64 1]] w (.int .i64 ((s.manyC y z : Nat) : Int)) fun w' => Hid (Co W0 w' c b (s.many y z) l n) := by
 exact ZkO 2 y z p hz hq h
theorem jt (y z p : Nat) (hy : 4 ≤ y) (hz : z < 4) (hq : y % 2 = 1) (h : Hid (Co W0 w c b s l (n + 4))) :
  CX 31 #[.pointer (some ⟨c, 0, none⟩), .agg #[.int .i64 2, .int .i64 (y : Int), .int .i64 (z : Int), .int .i64 (p : Int), .int .i64 1]] w (.int .i64 ((s.manyC y z : Nat) : Int)) fun w' => Hid (Co W0 w' c b (s.many y z) l n) := by
 obtain ⟨X, hf, HF, HG, HX, HM⟩ := h.out.hif
 have HF0 := HF
 have hg := HG.out
 have hX := HX.out
 have hO := HM.out
 have y4 : (4 : Int) ≤ (y : Int) := by omega
 have z4 : (z : Int) < 4 := by omega
 clear h hf hg hX hO
 go_enter Tryz.func31, Tryz.ntmps31
 go_wp2_with (first | refine b6 ?_ | (refine cP ?_; clear HM; intro w' HM) | (refine a4 ?_; clear HM; intro w' g' HM) | (go_at_call 64; have hco := Za (l := _ :: l) HM HG HX; (with_reducible refine (ZhX y z p hz hq hco).mono (Z2 ?_)); clear hco HM HF HG HX; intro w' X HF HG HX HM))
 go_ret
 have hco := Co.ok (l := _ :: l) HM.out HG.out HX.out
 exact ⟨rfl, Zb (hco.drop.less (by omega))⟩
theorem Zcr (x y z p q : Nat) (hx : ¬ x = 1 ∧ ¬ x = 2) (h : Hid (Co W0 w c b s l (n + 4))) :
  CX 31 #[.pointer (some ⟨c, 0, none⟩), .agg #[.int .i64 (x : Int), .int .i64 (y : Int), .int .i64 (z : Int), .int .i64 (p : Int), .int .i64 (q : Int)]] w (.int .i64 8) fun w' => Hid (Co W0 w' c b (s) l n) := by
 obtain ⟨X, hf, HF, HG, HX, HM⟩ := h.out.hif
 have HF0 := HF
 have hg := HG.out
 have hX := HX.out
 have hO := HM.out
 have x1 : ((x : Int) == 1) = false := by simp; omega
 have x2 : ((x : Int) == 2) = false := by simp; omega
 clear h hf hg hX hO
 go_enter Tryz.func31, Tryz.ntmps31
 go_wp2_with (first | refine b6 ?_ | (refine cP ?_; clear HM; intro w' HM) | (refine a4 ?_; clear HM; intro w' g' HM))
 go_ret
 have hco := Co.ok (l := _ :: l) HM.out HG.out HX.out
 exact ⟨rfl, Zb (hco.drop.less (by omega))⟩
theorem Zcs (x y z p q : Nat) (hx : x = 2) (hy : y < 4) (h : Hid (Co W0 w c b s l (n + 4))) :
  CX 31 #[.pointer (some ⟨c, 0, none⟩), .agg #[.int .i64 (x : Int), .int .i64 (y : Int), .int .i64 (z : Int), .int .i64 (p : Int), .int .i64 (q : Int)]] w (.int .i64 8) fun w' => Hid (Co W0 w' c b (s) l n) := by
 obtain ⟨X, hf, HF, HG, HX, HM⟩ := h.out.hif
 have HF0 := HF
 have hg := HG.out
 have hX := HX.out
 have hO := HM.out
 have x1 : ((x : Int) == 1) = false := by rw [hx]; rfl
 have x2 : ((x : Int) == 2) = true := by rw [hx]; rfl
 have y4 : (y : Int) < 4 := by omega
 clear h hf hg hX hO
 go_enter Tryz.func31, Tryz.ntmps31
 go_wp2_with (first | refine b6 ?_ | (refine cP ?_; clear HM; intro w' HM) | (refine a4 ?_; clear HM; intro w' g' HM))
 go_ret
 have hco := Co.ok (l := _ :: l) HM.out HG.out HX.out
 exact ⟨rfl, Zb (hco.drop.less (by omega))⟩
theorem Zct (x y z p q : Nat) (hx : x = 2) (hy : 4 ≤ y) (hz : 4 ≤ z) (h : Hid (Co W0 w c b s l (n + 4))) :
  CX 31 #[.pointer (some ⟨c, 0, none⟩), .agg #[.int .i64 (x : Int), .int .i64 (y : Int), .int .i64 (z : Int), .int .i64 (p : Int), .int .i64 (q : Int)]] w (.int .i64 8) fun w' => Hid (Co W0 w' c b (s) l n) := by
 obtain ⟨X, hf, HF, HG, HX, HM⟩ := h.out.hif
 have HF0 := HF
 have hg := HG.out
 have hX := HX.out
 have hO := HM.out
 have x1 : ((x : Int) == 1) = false := by rw [hx]; rfl
 have x2 : ((x : Int) == 2) = true := by rw [hx]; rfl
 have y4 : (4 : Int) ≤ (y : Int) := by omega
 have z4 : (4 : Int) ≤ (z : Int) := by omega
 clear h hf hg hX hO
 go_enter Tryz.func31, Tryz.ntmps31
 go_wp2_with (first | refine b6 ?_ | (refine cP ?_; clear HM; intro w' HM) | (refine a4 ?_; clear HM; intro w' g' HM))
 go_ret
 have hco := Co.ok (l := _ :: l) HM.out HG.out HX.out
 exact ⟨rfl, Zb (hco.drop.less (by omega))⟩
theorem ZhY (hT : Hid (Tabs W0)) (x y z p q : Nat) (hz : z < 8) (hp : y / 2 = p) (hq : y % 2 = q) (h : Hid (Co W0 w c b s l (n + 4))) :
  CX 31 #[.pointer (some ⟨c, 0, none⟩), .agg #[.int .i64 (x : Int), .int .i64 (y : Int), .int .i64 (z : Int), .int .i64 (p : Int), .int .i64 (q : Int)]] w (.int .i64 ((s.rareC x y z : Nat) : Int)) fun w' => Hid (Co W0 w' c b (s.rare x y z) l n) := by
 by_cases h1 : x = 1
 ·have e2 : s.rare x y z = s.rareOne y z := if_pos h1
  have e3 : s.rareC x y z = Cs.rareOneC y z := if_pos h1
  rw [e2, e3]; subst h1; rw [show ((1 : Nat) : Int) = 1 from rfl]; exact ZeU y z p q hT hz hp hq h
 by_cases h2 : x = 2 ∧ 4 ≤ y ∧ z < 4
 ·have e2 : s.rare x y z = s.many y z := (if_neg h1).trans (if_pos h2)
  have e3 : s.rareC x y z = s.manyC y z := (if_neg h1).trans (if_pos h2)
  rw [e2, e3]
  obtain ⟨h2, h5, h6⟩ := h2
  subst h2
  rw [show ((2 : Nat) : Int) = 2 from rfl]
  by_cases h8 : q = 0
  ·subst h8
   rw [show ((0 : Nat) : Int) = 0 from rfl]
   exact js y z p h5 h6 hq h
  ·obtain rfl : q = 1 := by omega
   rw [show ((1 : Nat) : Int) = 1 from rfl]
   exact jt y z p h5 h6 hq h
 have e2 : s.rare x y z = s := (if_neg h1).trans (if_neg h2)
 have e3 : s.rareC x y z = 8 := (if_neg h1).trans (if_neg h2)
 rw [e2, e3]
 by_cases h3 : x = 2
 ·by_cases h4 : 4 ≤ y
  ·exact Zct x y z p q h3 h4 (by omega) h
  ·exact Zcs x y z p q h3 (by omega) h
 ·exact Zcr x y z p q ⟨h1, h3⟩ h
theorem k65 {P : Prop} (h : P := by
 go_ret
 have hco := Co.ok (l := _ :: l) HM.out HG.out HX.out
 exact ⟨rfl, Zb hco.drop⟩) : P := h
theorem KD (x y z p q v : Nat) (hx : x = 0 ∨ ¬ x = 0) (hy : y < 8) (hv : v < 256) (h : Hid (Co W0 w c b s l (n))) :
  CX 71 #[.pointer (some ⟨c, 0, none⟩), .agg #[.int .i64 (x : Int), .int .i64 (y : Int), .int .i64 (z : Int), .int .i64 (p : Int), .int .i64 (q : Int)], .int .u8 (v : Int)] w (.int .u8 (s.changedV x y v : Int)) fun w' => Hid (Co W0 w' c b (s.changed x y v) l n) := by
 rcases hx with rfl | hx
 ·have E1 : s.changedV 0 y v = tV y v (s.r.f % 2) := if_pos rfl
  have E2 : s.changed 0 y v = s.setF (Yl y v (s.r.f % 2)) := if_pos rfl
  rw [E1, E2]
  obtain ⟨X, hf, HF, HG, HX, HM⟩ := h.out.hif
  have HF0 := HF
  have hg := HG.out
  have hX := HX.out
  have hO := HM.out
  have f1 : s.r.f < 256 := hf.r.f
  have y1 : (y : Int) % 8 = ((y : Nat) : Int) := by omega
  have h3 : Yl y v (s.r.f % 2) < 256 := Uw _ _ _
  clear E1 E2
  clear h hf hg hX hO
  go_enter Tryz.func71, Tryz.ntmps71
  go_upto_region 2 with (first | refine b6 ?_ | (refine cP ?_; clear HM; intro w' HM) | (refine a4 ?_; clear HM; intro w' g' HM))
  (refine Zk 14 HM (by kernel_rfl) (by kernel_rfl) (by kernel_rfl) ?_; simp only [List.take_succ_cons, List.take_zero, List.drop_succ_cons, List.drop_zero]; (try simp only [Act.put, Ze, Zc, Zd]); repeat ((fail_if_success (with_reducible refine wpQuiet_nil ?_)); first | go_big_quiet_skip | (go_big_quiet_want; first | (refine a15 ?_; go_big_quiet_op; go_big_quiet_on) | (refine a16 ?_; go_big_quiet_op; go_big_quiet_on) | (refine a26 ?_; go_big_quiet_op; go_big_quiet_on) | (refine a24 ?_; go_big_quiet_op; go_big_quiet_on) | ((with_reducible apply Zh); exact fun w => rfl; (focus (go_simp; all_goals with_reducible rfl)); (intro wq HQ; first | (with_reducible exact (Zgt _ y v _ _ _ _ y1 hv f1 (Zb rfl) (Zb rfl) (Zb rfl) _).mono fun _ _ ⟨he, hw⟩ => ⟨he, hw ▸ Below.refl _ _⟩)); go_big_quiet_op; go_big_quiet_on) | (go_big_quiet_op; go_big_quiet_on) | (go_big_quiet_op; refine ⟨_, fun _ _ => rfl, ?_⟩; go_big_quiet_on))))
  refine wpQuiet_nil ?_
  intro w' HM'
  clear HM; have HM := HM'; clear HM'
  go_wp2_with (first | refine b6 ?_ | (refine cP ?_; clear HM; intro w' HM) | (refine a4 ?_; clear HM; intro w' g' HM))
  exact k65
 ·have E1 : s.changedV x y v = KU y v (Nat.beq x 3) := if_neg hx
  have E2 : s.changed x y v = s := if_neg hx
  rw [E1, E2]
  have x1 : ((x : Int) == 0) = false := by simp; omega
  have x2 : ((x : Int) == 3) = Nat.beq x 3 := by rw [Bool.eq_iff_iff, Nat.beq_eq]; simp; omega
  have y1 : (y : Int) % 8 = ((y : Nat) : Int) := by omega
  clear E1 E2
  obtain ⟨X, HF, HG, HX, HM⟩ := h.out.hid
  have HF0 := HF
  clear h
  go_enter Tryz.func71, Tryz.ntmps71
  go_wp2_with (first | refine b6 ?_ | (refine cP ?_; clear HM; intro w' HM) | (refine a4 ?_; clear HM; intro w' g' HM) | (go_at_call 137; (with_reducible refine (Zku _ y v _ _ y1 hv (Zb rfl) _).mono ?_); rintro e w' ⟨rfl, rfl⟩))
  exact k65
end
end Go.Proofs.YtgdeeiimkhjfiaaGreatDoor
