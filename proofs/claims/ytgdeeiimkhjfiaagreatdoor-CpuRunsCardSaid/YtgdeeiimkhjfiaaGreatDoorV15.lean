import Derived.Test.YtgdeeiimkhjfiaaGreatDoorV14
set_option maxRecDepth 100000
set_option maxHeartbeats 6400000
namespace Go.Proofs.YtgdeeiimkhjfiaaGreatDoor
open Go.RowKit
section
variable {W0 w : World} {x b tq n c : Nat} {s : Cs} {ix : Bool} {pg : Int} {l : Zj}
theorem odd_0 (h : Hid (Co W0 w c b s l (n + 2))) :
  CX 125 #[.pointer (some ⟨c, 0, none⟩), .int .i64 0] w (.int .i64 9) fun w' => Hid (Co W0 w' c b (s.setI s.r.a) l n) := by
 obtain ⟨X, hf, HF, HG, HX, HM⟩ := h.out.hif
 have HF0 := HF
 have hg := HG.out
 have hX := HX.out
 have hO := HM.out
 have a1 : s.r.a < 256 := hf.r.a
 clear h hf hg hX hO
 go_enter Tryz.func125, Tryz.ntmps125
 go_wp2_with (first | refine cG ?_ | (refine cP ?_; clear HM; intro w' HM))
 go_ret
 have hco := Co.ok HM.out HG.out HX.out
 exact ⟨rfl, Zb (hco.less (by omega))⟩
theorem odd_1 (h : Hid (Co W0 w c b s l (n + 2))) :
  CX 125 #[.pointer (some ⟨c, 0, none⟩), .int .i64 1] w (.int .i64 9) fun w' => Hid (Co W0 w' c b (s.setRR s.r.a) l n) := by
 obtain ⟨X, hf, HF, HG, HX, HM⟩ := h.out.hif
 have HF0 := HF
 have hg := HG.out
 have hX := HX.out
 have hO := HM.out
 have a1 : s.r.a < 256 := hf.r.a
 clear h hf hg hX hO
 go_enter Tryz.func125, Tryz.ntmps125
 go_wp2_with (first | refine cG ?_ | (refine cP ?_; clear HM; intro w' HM))
 go_ret
 have hco := Co.ok HM.out HG.out HX.out
 exact ⟨rfl, Zb (hco.less (by omega))⟩
theorem odd_2 (h : Hid (Co W0 w c b s l (n + 2))) :
  CX 125 #[.pointer (some ⟨c, 0, none⟩), .int .i64 2] w (.int .i64 9) fun w' => Hid (Co W0 w' c b (s.bring s.r.i) l n) := by
 obtain ⟨X, hf, HF, HG, HX, HM⟩ := h.out.hif
 have HF0 := HF
 have hg := HG.out
 have hX := HX.out
 have hO := HM.out
 have a1 : s.r.i < 256 := hf.r.i
 clear h hf hg hX hO
 go_enter Tryz.func125, Tryz.ntmps125
 go_wp2_with (first | refine cG ?_ | (refine cP ?_; clear HM; intro w' HM) | (go_at_call 183; have hco := Za HM HG HX; (with_reducible refine (yG _ a1 hco).mono (coK ?_)); clear hco HM HF HG HX; intro w' X HF HG HX HM))
 go_ret
 have hco := Co.ok HM.out HG.out HX.out
 exact ⟨rfl, Zb (hco.less (by omega))⟩
theorem odd_3 (h : Hid (Co W0 w c b s l (n + 2))) :
  CX 125 #[.pointer (some ⟨c, 0, none⟩), .int .i64 3] w (.int .i64 9) fun w' => Hid (Co W0 w' c b (s.bring s.r.r) l n) := by
 obtain ⟨X, hf, HF, HG, HX, HM⟩ := h.out.hif
 have HF0 := HF
 have hg := HG.out
 have hX := HX.out
 have hO := HM.out
 have a1 : s.r.r < 256 := hf.r.r
 clear h hf hg hX hO
 go_enter Tryz.func125, Tryz.ntmps125
 go_wp2_with (first | refine cG ?_ | (refine cP ?_; clear HM; intro w' HM) | (go_at_call 183; have hco := Za HM HG HX; (with_reducible refine (yG _ a1 hco).mono (coK ?_)); clear hco HM HF HG HX; intro w' X HF HG HX HM))
 go_ret
 have hco := Co.ok HM.out HG.out HX.out
 exact ⟨rfl, Zb (hco.less (by omega))⟩
theorem odd_4 (h : Hid (Co W0 w c b s l (n + 2))) :
  CX 125 #[.pointer (some ⟨c, 0, none⟩), .int .i64 4] w (.int .i64 18) fun w' => Hid (Co W0 w' c b (s.digits false) l n) := by
 obtain ⟨X, HF, HG, HX, HM⟩ := h.out.hid
 have HF0 := HF
 clear h
 go_enter Tryz.func125, Tryz.ntmps125
 go_wp2_with (first | refine cG ?_ | (refine cP ?_; clear HM; intro w' HM) | (go_at_call 184; have hco := Za HM HG HX; (with_reducible refine (WR hco).mono (coK ?_)); clear hco HM HF HG HX; intro w' X HF HG HX HM))
 go_ret
 have hco := Co.ok HM.out HG.out HX.out
 exact ⟨rfl, Zb (hco.less (by omega))⟩
theorem odd_5 (h : Hid (Co W0 w c b s l (n + 2))) :
  CX 125 #[.pointer (some ⟨c, 0, none⟩), .int .i64 5] w (.int .i64 18) fun w' => Hid (Co W0 w' c b (s.digits true) l n) := by
 obtain ⟨X, HF, HG, HX, HM⟩ := h.out.hid
 have HF0 := HF
 clear h
 go_enter Tryz.func125, Tryz.ntmps125
 go_wp2_with (first | refine cG ?_ | (refine cP ?_; clear HM; intro w' HM) | (go_at_call 184; have hco := Za HM HG HX; (with_reducible refine (jl hco).mono (coK ?_)); clear hco HM HF HG HX; intro w' X HF HG HX HM))
 go_ret
 have hco := Co.ok HM.out HG.out HX.out
 exact ⟨rfl, Zb (hco.less (by omega))⟩
theorem ZkL (y : Nat) (hy : 6 ≤ y) (h : Hid (Co W0 w c b s l (n + 2))) :
  CX 125 #[.pointer (some ⟨c, 0, none⟩), .int .i64 (y : Int)] w (.int .i64 8) fun w' => Hid (Co W0 w' c b (s) l n) := by
 obtain ⟨X, hf, HF, HG, HX, HM⟩ := h.out.hif
 have HF0 := HF
 have hg := HG.out
 have hX := HX.out
 have hO := HM.out
 have y0 : ((y : Int) == 0) = false := by simp; omega
 have y1 : ((y : Int) == 1) = false := by simp; omega
 have y2 : ((y : Int) == 2) = false := by simp; omega
 have y3 : ((y : Int) == 3) = false := by simp; omega
 have y4 : ((y : Int) == 4) = false := by simp; omega
 have y5 : ((y : Int) == 5) = false := by simp; omega
 clear hy
 clear h hf hg hX hO
 go_enter Tryz.func125, Tryz.ntmps125
 go_wp2_with (first | refine cG ?_ | (refine cP ?_; clear HM; intro w' HM))
 go_ret
 have hco := Co.ok HM.out HG.out HX.out
 exact ⟨rfl, Zb (hco.less (by omega))⟩
theorem ZkM (y : Nat) (h : Hid (Co W0 w c b s l (n + 2))) :
  CX 125 #[.pointer (some ⟨c, 0, none⟩), .int .i64 (y : Int)] w (.int .i64 ((Cs.oddC y : Nat) : Int)) fun w' => Hid (Co W0 w' c b (s.odd y) l n) := by
 match y with
 | 0 => exact odd_0 h
 | 1 => exact odd_1 h
 | 2 => exact odd_2 h
 | 3 => exact odd_3 h
 | 4 => exact odd_4 h
 | 5 => exact odd_5 h
 | k + 6 =>
  have e1 : Cs.oddC (k + 6) = 8 := (if_neg (by omega)).trans (if_neg (by omega))
  have e2 : s.odd (k + 6) = s := by unfold Cs.odd; rw [if_neg (by omega), if_neg (by omega), if_neg (by omega), if_neg (by omega), if_neg (by omega), if_neg (by omega)]
  rw [e1, e2]
  exact ZkL (k + 6) (by omega) h
theorem Zcg (k : Nat) (hk : k < 256) (h : Hid (Co W0 w c b s l (n + 2))) :
  CX 126 #[.pointer (some ⟨c, 0, none⟩), .int .i64 0, .int .u8 (k : Int)] w (.bool (s.manyLoadOn)) fun w' => Hid (Co W0 w' c b (s.manyLoad k) l n) := by
 obtain ⟨X, hf, HF, HG, HX, HM⟩ := h.out.hif
 have HF0 := HF
 have hg := HG.out
 have hX := HX.out
 have hO := HM.out
 obtain ⟨P, hP⟩ : ∃ x, Hid ((s.manyLoadOn) = x) := ⟨_, rfl⟩
 rw [hP.out]
 clear h hf hg hX hO
 go_enter Tryz.func126, Tryz.ntmps126
 go_wp2_with (first | refine cG ?_ | (refine cP ?_; clear HM; intro w' HM) | (go_at_call 185; have hco := Za HM HG HX; (with_reducible refine (jm k hk hco).mono (coK ?_)); clear hco HM HF HG HX; intro w' X HF HG HX HM; rw [hP.out]))
 go_ret
 have hco := Co.ok HM.out HG.out HX.out
 exact ⟨rfl, Zb hco⟩
theorem Zch (k : Nat) (hk : k < 256) (h : Hid (Co W0 w c b s l (n + 2))) :
  CX 126 #[.pointer (some ⟨c, 0, none⟩), .int .i64 1, .int .u8 (k : Int)] w (.bool (s.manySeekOn)) fun w' => Hid (Co W0 w' c b (s.manySeek k) l n) := by
 obtain ⟨X, hf, HF, HG, HX, HM⟩ := h.out.hif
 have HF0 := HF
 have hg := HG.out
 have hX := HX.out
 have hO := HM.out
 obtain ⟨P, hP⟩ : ∃ x, Hid ((s.manySeekOn) = x) := ⟨_, rfl⟩
 rw [hP.out]
 clear h hf hg hX hO
 go_enter Tryz.func126, Tryz.ntmps126
 go_wp2_with (first | refine cG ?_ | (refine cP ?_; clear HM; intro w' HM) | (go_at_call 186; have hco := Za HM HG HX; (with_reducible refine (jn k hk hco).mono (coK ?_)); clear hco HM HF HG HX; intro w' X HF HG HX HM; rw [hP.out]))
 go_ret
 have hco := Co.ok HM.out HG.out HX.out
 exact ⟨rfl, Zb hco⟩
theorem Zci (k : Nat) (hk : k < 256) (h : Hid (Co W0 w c b s l (n + 2))) :
  CX 126 #[.pointer (some ⟨c, 0, none⟩), .int .i64 2, .int .u8 (k : Int)] w (.bool (decide (s.decB ≠ 0))) fun w' => Hid (Co W0 w' c b (s.manyIn k) l n) := by
 obtain ⟨X, hf, HF, HG, HX, HM⟩ := h.out.hif
 have HF0 := HF
 have hg := HG.out
 have hX := HX.out
 have hO := HM.out
 obtain ⟨P, hP⟩ : ∃ x, Hid ((decide (s.decB ≠ 0)) = x) := ⟨_, rfl⟩
 rw [hP.out]
 clear h hf hg hX hO
 go_enter Tryz.func126, Tryz.ntmps126
 go_wp2_with (first | refine cG ?_ | (refine cP ?_; clear HM; intro w' HM) | (go_at_call 187; have hco := Za HM HG HX; (with_reducible refine (Zcf k hk hco).mono (coK ?_)); clear hco HM HF HG HX; intro w' X HF HG HX HM; rw [hP.out]))
 go_ret
 have hco := Co.ok HM.out HG.out HX.out
 exact ⟨rfl, Zb hco⟩
theorem Zcj (k : Nat) (hk : k < 256) (h : Hid (Co W0 w c b s l (n + 2))) :
  CX 126 #[.pointer (some ⟨c, 0, none⟩), .int .i64 3, .int .u8 (k : Int)] w (.bool (decide (s.decB ≠ 0))) fun w' => Hid (Co W0 w' c b (s.manyOut k) l n) := by
 obtain ⟨X, hf, HF, HG, HX, HM⟩ := h.out.hif
 have HF0 := HF
 have hg := HG.out
 have hX := HX.out
 have hO := HM.out
 obtain ⟨P, hP⟩ : ∃ x, Hid ((decide (s.decB ≠ 0)) = x) := ⟨_, rfl⟩
 rw [hP.out]
 clear h hf hg hX hO
 go_enter Tryz.func126, Tryz.ntmps126
 go_wp2_with (first | refine cG ?_ | (refine cP ?_; clear HM; intro w' HM) | (go_at_call 188; have hco := Za HM HG HX; (with_reducible refine (Zak k hk hco).mono (coK ?_)); clear hco HM HF HG HX; intro w' X HF HG HX HM; rw [hP.out]))
 go_ret
 have hco := Co.ok HM.out HG.out HX.out
 exact ⟨rfl, Zb hco⟩
theorem V9 (z : Nat) (hz : z < 4) (k : Nat) (hk : k < 256) (h : Hid (Co W0 w c b s l (n + 2))) :
  CX 126 #[.pointer (some ⟨c, 0, none⟩), .int .i64 (z : Int), .int .u8 (k : Int)] w (.bool (s.manyOn z)) fun w' => Hid (Co W0 w' c b (s.manyOne z k) l n) := by
 match z, hz with
 | 0, _ =>
  have e1 : s.manyOn 0 = s.manyLoadOn := if_pos rfl
  have e2 : s.manyOne 0 k = s.manyLoad k := if_pos rfl
  rw [e1, e2]; exact Zcg k hk h
 | 1, _ =>
  have e1 : s.manyOn 1 = s.manySeekOn := (if_neg (by decide)).trans (if_pos rfl)
  have e2 : s.manyOne 1 k = s.manySeek k := (if_neg (by decide)).trans (if_pos rfl)
  rw [e1, e2]; exact Zch k hk h
 | 2, _ =>
  have e1 : s.manyOn 2 = decide (s.decB ≠ 0) := (if_neg (by decide)).trans (if_neg (by decide))
  have e2 : s.manyOne 2 k = s.manyIn k := (if_neg (by decide)).trans ((if_neg (by decide)).trans (if_pos rfl))
  rw [e1, e2]; exact Zci k hk h
 | 3, _ =>
  have e1 : s.manyOn 3 = decide (s.decB ≠ 0) := (if_neg (by decide)).trans (if_neg (by decide))
  have e2 : s.manyOne 3 k = s.manyOut k := (if_neg (by decide)).trans ((if_neg (by decide)).trans (if_neg (by decide)))
  rw [e1, e2]; exact Zcj k hk h
theorem Ja (z : Nat) (hz : z < 4) (h : Hid (Co W0 w c b s l (n + 2))) :
  Calls Tryz.prog 126 #[.pointer (some ⟨c, 0, none⟩), .int .i64 (z : Int), .int .u8 1] w fun e w' => e = .returned (.bool (s.manyOn z)) ∧ Hid (Co W0 w' c b (s.manyOne z 1) l n) := V9 z hz 1 (by decide) h
theorem YQ (z : Nat) (hz : z < 4) (h : Hid (Co W0 w c b s l (n + 2))) :
  Calls Tryz.prog 126 #[.pointer (some ⟨c, 0, none⟩), .int .i64 (z : Int), .int .u8 255] w fun e w' => e = .returned (.bool (s.manyOn z)) ∧ Hid (Co W0 w' c b (s.manyOne z 255) l n) := V9 z hz 255 (by decide) h
theorem jo (x y z p : Nat) (hz : z < 4) (hy : y < 6) (h : Hid (Co W0 w c b s l (n + 2))) :
  CX 64 #[.pointer (some ⟨c, 0, none⟩), .agg #[.int .i64 (x : Int), .int .i64 (y : Int), .int .i64 (z : Int), .int .i64 (p : Int), .int .i64 0]] w (.int .i64 16) fun w' => Hid (Co W0 w' c b ((s.manyOne z 1)) l n) := by
 obtain ⟨X, hf, HF, HG, HX, HM⟩ := h.out.hif
 have HF0 := HF
 have hg := HG.out
 have hX := HX.out
 have hO := HM.out
 have y1 : ((y : Int) < 6) = True := by simp; omega
 obtain ⟨P, hP⟩ : ∃ x, Hid (s.manyOn z = x) := ⟨_, rfl⟩
 clear hy h hf hg hX hO
 go_enter Tryz.func64, Tryz.ntmps64
 go_wp2_with (first | refine b6 ?_ | (refine cP ?_; clear HM; intro w' HM) | (refine a4 ?_; clear HM; intro w' g' HM) | (go_at_call 126; have hco := Za (l := _ :: l) HM HG HX; (with_reducible refine (Ja z hz hco).mono (Z2 ?_)); clear hco HM HF HG HX; intro w' X HF HG HX HM; rw [hP.out]))
 go_ret
 have hco := Co.ok (l := _ :: l) HM.out HG.out HX.out
 exact ⟨rfl, Zb hco.drop⟩
theorem jp (x y z p : Nat) (hz : z < 4) (hy : 6 ≤ y) (hon : s.manyOn z = false) (h : Hid (Co W0 w c b s l (n + 2))) :
  CX 64 #[.pointer (some ⟨c, 0, none⟩), .agg #[.int .i64 (x : Int), .int .i64 (y : Int), .int .i64 (z : Int), .int .i64 (p : Int), .int .i64 0]] w (.int .i64 16) fun w' => Hid (Co W0 w' c b ((s.manyOne z 1)) l n) := by
 obtain ⟨X, hf, HF, HG, HX, HM⟩ := h.out.hif
 have HF0 := HF
 have hg := HG.out
 have hX := HX.out
 have hO := HM.out
 have y1 : ((y : Int) < 6) = False := by simp; omega
 have hP := Zb hon
 clear hy hon h hf hg hX hO
 go_enter Tryz.func64, Tryz.ntmps64
 go_wp2_with (first | refine b6 ?_ | (refine cP ?_; clear HM; intro w' HM) | (refine a4 ?_; clear HM; intro w' g' HM) | (go_at_call 126; have hco := Za (l := _ :: l) HM HG HX; (with_reducible refine (Ja z hz hco).mono (Z2 ?_)); clear hco HM HF HG HX; intro w' X HF HG HX HM; rw [hP.out]))
 go_ret
 have hco := Co.ok (l := _ :: l) HM.out HG.out HX.out
 exact ⟨rfl, Zb hco.drop⟩
theorem Zal (x y z p : Nat) (hz : z < 4) (hy : 6 ≤ y) (hon : s.manyOn z = true) (h2 : z < 2) (h : Hid (Co W0 w c b s l (n + 2))) :
  CX 64 #[.pointer (some ⟨c, 0, none⟩), .agg #[.int .i64 (x : Int), .int .i64 (y : Int), .int .i64 (z : Int), .int .i64 (p : Int), .int .i64 0]] w (.int .i64 21) fun w' => Hid (Co W0 w' c b (((s.manyOne z 1).setPC (dn1 (dn1 (s.manyOne z 1).r.pc))).setWZ (up1 (dn1 (dn1 (s.manyOne z 1).r.pc)))) l n) := by
 obtain ⟨X, hf, HF, HG, HX, HM⟩ := h.out.hif
 have HF0 := HF
 have hg := HG.out
 have hX := HX.out
 have hO := HM.out
 have y1 : ((y : Int) < 6) = False := by simp; omega
 obtain ⟨N, hN⟩ : ∃ x, Hid (dn1 (dn1 (s.manyOne z 1).r.pc) = x) := ⟨_, rfl⟩
 have N1 : N < 65536 := by rw [← hN.out]; exact ZP _
 rw [hN.out]
 have e1 : IntKind.u16.wrap (((s.manyOne z 1).r.pc : Int) - 2) = (N : Int) := by rw [← hN.out]; generalize (s.manyOne z 1).r.pc = k; unfold dn1; show ((k : Int) - 2) % 65536 = _; omega
 have e2 : IntKind.u16.wrap ((((s.manyOne z 1).setPC N).r.pc : Int) + 1) = ((up1 N : Nat) : Int) := by show IntKind.u16.wrap ((N : Int) + 1) = _; unfold up1; show ((N : Int) + 1) % 65536 = _; omega
 have z2 : ((z : Int) < 2) = True := by simp; omega
 have hP := Zb hon
 clear hy hon h2 h hf hg hX hO
 go_enter Tryz.func64, Tryz.ntmps64
 go_wp2_with (first | refine b6 ?_ | (refine cP ?_; clear HM; intro w' HM) | (refine a4 ?_; clear HM; intro w' g' HM) | (go_at_call 126; have hco := Za (l := _ :: l) HM HG HX; (with_reducible refine (Ja z hz hco).mono (Z2 ?_)); clear hco HM HF HG HX; intro w' X HF HG HX HM; rw [hP.out]))
 go_ret
 have hco := Co.ok (l := _ :: l) HM.out HG.out HX.out
 exact ⟨rfl, Zb hco.drop⟩
theorem Zam (x y z p : Nat) (hz : z < 4) (hy : 6 ≤ y) (hon : s.manyOn z = true) (h2 : 2 ≤ z) (h : Hid (Co W0 w c b s l (n + 2))) :
  CX 64 #[.pointer (some ⟨c, 0, none⟩), .agg #[.int .i64 (x : Int), .int .i64 (y : Int), .int .i64 (z : Int), .int .i64 (p : Int), .int .i64 0]] w (.int .i64 21) fun w' => Hid (Co W0 w' c b ((s.manyOne z 1).setPC (dn1 (dn1 (s.manyOne z 1).r.pc))) l n) := by
 obtain ⟨X, hf, HF, HG, HX, HM⟩ := h.out.hif
 have HF0 := HF
 have hg := HG.out
 have hX := HX.out
 have hO := HM.out
 have y1 : ((y : Int) < 6) = False := by simp; omega
 obtain ⟨N, hN⟩ : ∃ x, Hid (dn1 (dn1 (s.manyOne z 1).r.pc) = x) := ⟨_, rfl⟩
 have N1 : N < 65536 := by rw [← hN.out]; exact ZP _
 rw [hN.out]
 have e1 : IntKind.u16.wrap (((s.manyOne z 1).r.pc : Int) - 2) = (N : Int) := by rw [← hN.out]; generalize (s.manyOne z 1).r.pc = k; unfold dn1; show ((k : Int) - 2) % 65536 = _; omega
 have e2 : IntKind.u16.wrap ((((s.manyOne z 1).setPC N).r.pc : Int) + 1) = ((up1 N : Nat) : Int) := by show IntKind.u16.wrap ((N : Int) + 1) = _; unfold up1; show ((N : Int) + 1) % 65536 = _; omega
 have z2 : ((z : Int) < 2) = False := by simp; omega
 have hP := Zb hon
 clear hy hon h2 h hf hg hX hO
 go_enter Tryz.func64, Tryz.ntmps64
 go_wp2_with (first | refine b6 ?_ | (refine cP ?_; clear HM; intro w' HM) | (refine a4 ?_; clear HM; intro w' g' HM) | (go_at_call 126; have hco := Za (l := _ :: l) HM HG HX; (with_reducible refine (Ja z hz hco).mono (Z2 ?_)); clear hco HM HF HG HX; intro w' X HF HG HX HM; rw [hP.out]))
 go_ret
 have hco := Co.ok (l := _ :: l) HM.out HG.out HX.out
 exact ⟨rfl, Zb hco.drop⟩
theorem jq (x y z p : Nat) (hz : z < 4) (hy : y < 6) (h : Hid (Co W0 w c b s l (n + 2))) :
  CX 64 #[.pointer (some ⟨c, 0, none⟩), .agg #[.int .i64 (x : Int), .int .i64 (y : Int), .int .i64 (z : Int), .int .i64 (p : Int), .int .i64 1]] w (.int .i64 16) fun w' => Hid (Co W0 w' c b ((s.manyOne z 255)) l n) := by
 obtain ⟨X, hf, HF, HG, HX, HM⟩ := h.out.hif
 have HF0 := HF
 have hg := HG.out
 have hX := HX.out
 have hO := HM.out
 have y1 : ((y : Int) < 6) = True := by simp; omega
 obtain ⟨P, hP⟩ : ∃ x, Hid (s.manyOn z = x) := ⟨_, rfl⟩
 clear hy h hf hg hX hO
 go_enter Tryz.func64, Tryz.ntmps64
 go_wp2_with (first | refine b6 ?_ | (refine cP ?_; clear HM; intro w' HM) | (refine a4 ?_; clear HM; intro w' g' HM) | (go_at_call 126; have hco := Za (l := _ :: l) HM HG HX; (with_reducible refine (YQ z hz hco).mono (Z2 ?_)); clear hco HM HF HG HX; intro w' X HF HG HX HM; rw [hP.out]))
 go_ret
 have hco := Co.ok (l := _ :: l) HM.out HG.out HX.out
 exact ⟨rfl, Zb hco.drop⟩
theorem jr (x y z p : Nat) (hz : z < 4) (hy : 6 ≤ y) (hon : s.manyOn z = false) (h : Hid (Co W0 w c b s l (n + 2))) :
  CX 64 #[.pointer (some ⟨c, 0, none⟩), .agg #[.int .i64 (x : Int), .int .i64 (y : Int), .int .i64 (z : Int), .int .i64 (p : Int), .int .i64 1]] w (.int .i64 16) fun w' => Hid (Co W0 w' c b ((s.manyOne z 255)) l n) := by
 obtain ⟨X, hf, HF, HG, HX, HM⟩ := h.out.hif
 have HF0 := HF
 have hg := HG.out
 have hX := HX.out
 have hO := HM.out
 have y1 : ((y : Int) < 6) = False := by simp; omega
 have hP := Zb hon
 clear hy hon h hf hg hX hO
 go_enter Tryz.func64, Tryz.ntmps64
 go_wp2_with (first | refine b6 ?_ | (refine cP ?_; clear HM; intro w' HM) | (refine a4 ?_; clear HM; intro w' g' HM) | (go_at_call 126; have hco := Za (l := _ :: l) HM HG HX; (with_reducible refine (YQ z hz hco).mono (Z2 ?_)); clear hco HM HF HG HX; intro w' X HF HG HX HM; rw [hP.out]))
 go_ret
 have hco := Co.ok (l := _ :: l) HM.out HG.out HX.out
 exact ⟨rfl, Zb hco.drop⟩
theorem Zan (x y z p : Nat) (hz : z < 4) (hy : 6 ≤ y) (hon : s.manyOn z = true) (h2 : z < 2) (h : Hid (Co W0 w c b s l (n + 2))) :
  CX 64 #[.pointer (some ⟨c, 0, none⟩), .agg #[.int .i64 (x : Int), .int .i64 (y : Int), .int .i64 (z : Int), .int .i64 (p : Int), .int .i64 1]] w (.int .i64 21) fun w' => Hid (Co W0 w' c b (((s.manyOne z 255).setPC (dn1 (dn1 (s.manyOne z 255).r.pc))).setWZ (up1 (dn1 (dn1 (s.manyOne z 255).r.pc)))) l n) := by
 obtain ⟨X, hf, HF, HG, HX, HM⟩ := h.out.hif
 have HF0 := HF
 have hg := HG.out
 have hX := HX.out
 have hO := HM.out
 have y1 : ((y : Int) < 6) = False := by simp; omega
 obtain ⟨N, hN⟩ : ∃ x, Hid (dn1 (dn1 (s.manyOne z 255).r.pc) = x) := ⟨_, rfl⟩
 have N1 : N < 65536 := by rw [← hN.out]; exact ZP _
 rw [hN.out]
 have e1 : IntKind.u16.wrap (((s.manyOne z 255).r.pc : Int) - 2) = (N : Int) := by rw [← hN.out]; generalize (s.manyOne z 255).r.pc = k; unfold dn1; show ((k : Int) - 2) % 65536 = _; omega
 have e2 : IntKind.u16.wrap ((((s.manyOne z 255).setPC N).r.pc : Int) + 1) = ((up1 N : Nat) : Int) := by show IntKind.u16.wrap ((N : Int) + 1) = _; unfold up1; show ((N : Int) + 1) % 65536 = _; omega
 have z2 : ((z : Int) < 2) = True := by simp; omega
 have hP := Zb hon
 clear hy hon h2 h hf hg hX hO
 go_enter Tryz.func64, Tryz.ntmps64
 go_wp2_with (first | refine b6 ?_ | (refine cP ?_; clear HM; intro w' HM) | (refine a4 ?_; clear HM; intro w' g' HM) | (go_at_call 126; have hco := Za (l := _ :: l) HM HG HX; (with_reducible refine (YQ z hz hco).mono (Z2 ?_)); clear hco HM HF HG HX; intro w' X HF HG HX HM; rw [hP.out]))
 go_ret
 have hco := Co.ok (l := _ :: l) HM.out HG.out HX.out
 exact ⟨rfl, Zb hco.drop⟩
theorem Zao (x y z p : Nat) (hz : z < 4) (hy : 6 ≤ y) (hon : s.manyOn z = true) (h2 : 2 ≤ z) (h : Hid (Co W0 w c b s l (n + 2))) :
  CX 64 #[.pointer (some ⟨c, 0, none⟩), .agg #[.int .i64 (x : Int), .int .i64 (y : Int), .int .i64 (z : Int), .int .i64 (p : Int), .int .i64 1]] w (.int .i64 21) fun w' => Hid (Co W0 w' c b ((s.manyOne z 255).setPC (dn1 (dn1 (s.manyOne z 255).r.pc))) l n) := by
 obtain ⟨X, hf, HF, HG, HX, HM⟩ := h.out.hif
 have HF0 := HF
 have hg := HG.out
 have hX := HX.out
 have hO := HM.out
 have y1 : ((y : Int) < 6) = False := by simp; omega
 obtain ⟨N, hN⟩ : ∃ x, Hid (dn1 (dn1 (s.manyOne z 255).r.pc) = x) := ⟨_, rfl⟩
 have N1 : N < 65536 := by rw [← hN.out]; exact ZP _
 rw [hN.out]
 have e1 : IntKind.u16.wrap (((s.manyOne z 255).r.pc : Int) - 2) = (N : Int) := by rw [← hN.out]; generalize (s.manyOne z 255).r.pc = k; unfold dn1; show ((k : Int) - 2) % 65536 = _; omega
 have e2 : IntKind.u16.wrap ((((s.manyOne z 255).setPC N).r.pc : Int) + 1) = ((up1 N : Nat) : Int) := by show IntKind.u16.wrap ((N : Int) + 1) = _; unfold up1; show ((N : Int) + 1) % 65536 = _; omega
 have z2 : ((z : Int) < 2) = False := by simp; omega
 have hP := Zb hon
 clear hy hon h2 h hf hg hX hO
 go_enter Tryz.func64, Tryz.ntmps64
 go_wp2_with (first | refine b6 ?_ | (refine cP ?_; clear HM; intro w' HM) | (refine a4 ?_; clear HM; intro w' g' HM) | (go_at_call 126; have hco := Za (l := _ :: l) HM HG HX; (with_reducible refine (YQ z hz hco).mono (Z2 ?_)); clear hco HM HF HG HX; intro w' X HF HG HX HM; rw [hP.out]))
 go_ret
 have hco := Co.ok (l := _ :: l) HM.out HG.out HX.out
 exact ⟨rfl, Zb hco.drop⟩
theorem ZkN (x y z p : Nat) (hz : z < 4) (hq : y % 2 = 0) (h : Hid (Co W0 w c b s l (n + 2))) :
  CX 64 #[.pointer (some ⟨c, 0, none⟩), .agg #[.int .i64 (x : Int), .int .i64 (y : Int), .int .i64 (z : Int), .int .i64 (p : Int), .int .i64 0]] w (.int .i64 ((s.manyC y z : Nat) : Int)) fun w' => Hid (Co W0 w' c b (s.many y z) l n) := by
 have e0 : Cs.byN (decide (y % 2 ≠ 0)) = 1 := by rw [hq]; rfl
 unfold Cs.many Cs.manyC
 rw [e0]
 unfold Cs.goesOn Cs.again
 by_cases hy : 6 ≤ y
 ·rw [decide_eq_true hy]
  cases hon : s.manyOn z
  ·exact jp x y z p hz hy hon h
  ·by_cases h2 : z < 2
   ·rw [if_pos h2]; exact Zal x y z p hz hy hon h2 h
   ·rw [if_neg h2]; exact Zam x y z p hz hy hon (by omega) h
 ·rw [decide_eq_false hy]; exact jo x y z p hz (by omega) h
theorem ZkO (x y z p : Nat) (hz : z < 4) (hq : y % 2 = 1) (h : Hid (Co W0 w c b s l (n + 2))) :
  CX 64 #[.pointer (some ⟨c, 0, none⟩), .agg #[.int .i64 (x : Int), .int .i64 (y : Int), .int .i64 (z : Int), .int .i64 (p : Int), .int .i64 1]] w (.int .i64 ((s.manyC y z : Nat) : Int)) fun w' => Hid (Co W0 w' c b (s.many y z) l n) := by
 have e0 : Cs.byN (decide (y % 2 ≠ 0)) = 255 := by rw [hq]; rfl
 unfold Cs.many Cs.manyC
 rw [e0]
 unfold Cs.goesOn Cs.again
 by_cases hy : 6 ≤ y
 ·rw [decide_eq_true hy]
  cases hon : s.manyOn z
  ·exact jr x y z p hz hy hon h
  ·by_cases h2 : z < 2
   ·rw [if_pos h2]; exact Zan x y z p hz hy hon h2 h
   ·rw [if_neg h2]; exact Zao x y z p hz hy hon (by omega) h
 ·rw [decide_eq_false hy]; exact jq x y z p hz (by omega) h
end
end Go.Proofs.YtgdeeiimkhjfiaaGreatDoor
