import Derived.Test.YtgdeeiimkhjfiaaGreatDoorV9
set_option maxRecDepth 100000
set_option maxHeartbeats 6400000
namespace Go.Proofs.YtgdeeiimkhjfiaaGreatDoor
open Go.RowKit
section
variable {W0 w : World} {x b tq n c : Nat} {s : Cs} {ix : Bool} {pg : Int} {l : Zj}
def rgCond : Nat → ByteArray
 | 0 => ⟨#[78, 90]⟩
 | 1 => ⟨#[90]⟩
 | 2 => ⟨#[78, 67]⟩
 | 3 => ⟨#[67]⟩
 | 4 => ⟨#[80, 79]⟩
 | 5 => ⟨#[80, 69]⟩
 | 6 => ⟨#[80]⟩
 | _ => ⟨#[77]⟩
theorem ZhA (f j : Nat) (hf : f < 256) (hj : j < 4) : (((f &&& askBit j : Nat) : Int) != 0) = Zf (askBit j) f := by
 have h : (Nat.beq (f &&& askBit j) 0).not = Zf (askBit j) f := by
  match j, hj with
  | 0, _ => exact eq_of_beq (Zu (show allB 256 (fun f => ((Nat.beq (Nat.land f 64) 0).not == Zf 64 f)) = true by decide +kernel) f hf)
  | 1, _ => exact eq_of_beq (Zu (show allB 256 (fun f => ((Nat.beq (Nat.land f 1) 0).not == Zf 1 f)) = true by decide +kernel) f hf)
  | 2, _ => exact eq_of_beq (Zu (show allB 256 (fun f => ((Nat.beq (Nat.land f 4) 0).not == Zf 4 f)) = true by decide +kernel) f hf)
  | 3, _ => exact eq_of_beq (Zu (show allB 256 (fun f => ((Nat.beq (Nat.land f 128) 0).not == Zf 128 f)) = true by decide +kernel) f hf)
 rw [← h, Bool.eq_iff_iff, bne_iff_ne, Bool.not_eq_true', ← Bool.not_eq_true, Nat.beq_eq]
 omega
def askTab : List Int := [64, 1, 4, 128]
theorem Zb3 (j : Nat) (hj : j < 4) : askTab.getD j 0 = (askBit j : Int) := by
 match j, hj with
 | 0, _ | 1, _ | 2, _ | 3, _ => rfl
def Tab (w : World) : Prop := ∀ j : Nat, j < 4 → w.cell? ⟨1, j, none⟩ = some (.int .u8 (askTab.getD j 0))
theorem Tab.under {B : Nat} {w w' : World} (h : Tab w) (hb : Below B w w') (hB : w.heap.size ≤ B) : Tab w' := fun j hj =>
 (hb.cell (p := ⟨1, j, none⟩) (Nat.lt_of_lt_of_le (block_lt_of_cell (h j hj)) hB)).trans (h j hj)
theorem Tab.own {w0 w : World} {l : List (Nat × TypeId × List Value)} (h : Hid (Tab w0)) (HM : Hid (Own w0 w l)) : Tab w := h.out.under HM.out.below (Nat.le_refl _)
theorem yF (f k : Nat) (c : Int) (hf : f < 256) (hk : c % 8 = (k : Int)) (b : Bool) (hb : Hid (ZH f k = b)) (w : World) (hT : Tab w) :
  CW 153 #[.int .u8 (f : Int), .int .i64 c] w (.bool b) := by
 have k1 : k < 8 := by omega
 obtain ⟨j, hj⟩ : ∃ j, k / 2 = j := ⟨_, rfl⟩
 have j1 : j < 4 := by omega
 have h3 : bits .and .i64 (c / 2) 3 = (j : Int) := by rw [yD]; omega
 have h1 : bits .and .i64 c 1 = ((k % 2 : Nat) : Int) := by rw [yE]; omega
 obtain ⟨o, ho⟩ : ∃ o, k % 2 = o := ⟨_, rfl⟩
 rw [ho] at h1
 have ct := hT j j1
 rw [Zb3 j j1] at ct
 have hm := ZhA f j hf j1
 obtain ⟨M, hM⟩ : ∃ M, askBit j = M := ⟨_, rfl⟩
 have M1 : M < 256 := by rw [← hM]; match j with | 0 => decide | 1 => decide | 2 => decide | _ + 3 => exact (by decide : (128 : Nat) < 256)
 have HB : Hid ((Zf M f == Nat.beq o 1) = b) := by show _ = _; rw [← hb.out, ZH, hj, hM, ho]
 rw [hM] at hm ct
 obtain ⟨X, hX⟩ : ∃ X, f &&& M = X := ⟨_, rfl⟩
 have e1 : bits .and .u8 (f : Int) (M : Int) = (X : Int) := by rw [u8_and f M (by omega) (by omega) (by omega) (by omega), ← hX]; rfl
 rw [hX] at hm
 obtain ⟨t, ht⟩ : ∃ t, Zf M f = t := ⟨_, rfl⟩
 rw [ht] at hm HB
 have o2 : ((o : Int) != 0) = Nat.beq o 1 := by
  rcases (show o = 0 ∨ o = 1 by omega) with rfl | rfl <;> rfl
 obtain ⟨u, hu⟩ : ∃ u, Nat.beq o 1 = u := ⟨_, rfl⟩
 rw [hu] at o2 HB
 have j2 : (j : Int) < 4 := by omega
 clear hb hk hj ho hM hX ht hu hT k1 j1
 go_enter Tryz.func153, Tryz.ntmps153
 go_wp2
 go_ret
 exact ⟨by rw [← HB.out]; rfl, rfl⟩
theorem k6 {P : Prop} (h : P := by
 clear HB h128 h64 h4 h1 hf
 have HM := Zb (Own.start w)
 go_enter Tryz.func98, Tryz.ntmps98
 go_wp2_with (first | (refine b7 ?_; clear HM; intro w' g' HM) | refine b8 ?_ | (refine a12 ?_; clear HM; intro w' HM) | (go_at_call 164; (with_reducible refine (HO.out _).mono ?_); rintro e w' ⟨rfl, hb⟩; replace HM := Zb (HM.out.call hb); clear hb))
 go_ret
 exact ⟨rfl, Own.fin HM⟩) : P := h
theorem k72 {P : Prop} (h : P := by
 rw [HB.out]
 obtain ⟨b128, h128⟩ : ∃ b, Zf 128 f = b := ⟨_, rfl⟩
 obtain ⟨b64, h64⟩ : ∃ b, Zf 64 f = b := ⟨_, rfl⟩
 obtain ⟨b4, h4⟩ : ∃ b, Zf 4 f = b := ⟨_, rfl⟩
 obtain ⟨b1, h1⟩ : ∃ b, Zf 1 f = b := ⟨_, rfl⟩
 have HO : Hid (∀ w, Calls Tryz.prog 164 #[.int .u8 (f : Int)] w fun e w' => e = .returned (.agg #[.bool b128, .bool b64, .bool (Zf 32 f), .bool (Zf 16 f), .bool (Zf 8 f), .bool b4, .bool (Zf 2 f), .bool b1]) ∧ Below w.heap.size w w') := by
  rw [← h128, ← h64, ← h4, ← h1]; exact WA f hf
 rw [h64]
 exact k6) : P := h
theorem ZhB (f : Nat) (hf : f < 256) (w : World) : CB 98 #[.int .u8 (f : Int), .string ⟨#[78, 90]⟩] w (.bool (ZH f 0)) := by
 have HB : Hid (ZH f 0 = !(Zf 64 f)) := by show (Zf 64 f == false) = _; cases Zf 64 f <;> rfl
 exact k72
theorem ZkD (f : Nat) (hf : f < 256) (w : World) : CB 98 #[.int .u8 (f : Int), .string ⟨#[90]⟩] w (.bool (ZH f 1)) := by
 have HB : Hid (ZH f 1 = (Zf 64 f)) := by show (Zf 64 f == true) = _; cases Zf 64 f <;> rfl
 exact k72
theorem k73 {P : Prop} (h : P := by
 rw [HB.out]
 obtain ⟨b128, h128⟩ : ∃ b, Zf 128 f = b := ⟨_, rfl⟩
 obtain ⟨b64, h64⟩ : ∃ b, Zf 64 f = b := ⟨_, rfl⟩
 obtain ⟨b4, h4⟩ : ∃ b, Zf 4 f = b := ⟨_, rfl⟩
 obtain ⟨b1, h1⟩ : ∃ b, Zf 1 f = b := ⟨_, rfl⟩
 have HO : Hid (∀ w, Calls Tryz.prog 164 #[.int .u8 (f : Int)] w fun e w' => e = .returned (.agg #[.bool b128, .bool b64, .bool (Zf 32 f), .bool (Zf 16 f), .bool (Zf 8 f), .bool b4, .bool (Zf 2 f), .bool b1]) ∧ Below w.heap.size w w') := by
  rw [← h128, ← h64, ← h4, ← h1]; exact WA f hf
 rw [h1]
 exact k6) : P := h
theorem ZhC (f : Nat) (hf : f < 256) (w : World) : CB 98 #[.int .u8 (f : Int), .string ⟨#[78, 67]⟩] w (.bool (ZH f 2)) := by
 have HB : Hid (ZH f 2 = !(Zf 1 f)) := by show (Zf 1 f == false) = _; cases Zf 1 f <;> rfl
 exact k73
theorem ZkE (f : Nat) (hf : f < 256) (w : World) : CB 98 #[.int .u8 (f : Int), .string ⟨#[67]⟩] w (.bool (ZH f 3)) := by
 have HB : Hid (ZH f 3 = (Zf 1 f)) := by show (Zf 1 f == true) = _; cases Zf 1 f <;> rfl
 exact k73
theorem k74 {P : Prop} (h : P := by
 rw [HB.out]
 obtain ⟨b128, h128⟩ : ∃ b, Zf 128 f = b := ⟨_, rfl⟩
 obtain ⟨b64, h64⟩ : ∃ b, Zf 64 f = b := ⟨_, rfl⟩
 obtain ⟨b4, h4⟩ : ∃ b, Zf 4 f = b := ⟨_, rfl⟩
 obtain ⟨b1, h1⟩ : ∃ b, Zf 1 f = b := ⟨_, rfl⟩
 have HO : Hid (∀ w, Calls Tryz.prog 164 #[.int .u8 (f : Int)] w fun e w' => e = .returned (.agg #[.bool b128, .bool b64, .bool (Zf 32 f), .bool (Zf 16 f), .bool (Zf 8 f), .bool b4, .bool (Zf 2 f), .bool b1]) ∧ Below w.heap.size w w') := by
  rw [← h128, ← h64, ← h4, ← h1]; exact WA f hf
 rw [h4]
 exact k6) : P := h
theorem ZhD (f : Nat) (hf : f < 256) (w : World) : CB 98 #[.int .u8 (f : Int), .string ⟨#[80, 79]⟩] w (.bool (ZH f 4)) := by
 have HB : Hid (ZH f 4 = !(Zf 4 f)) := by show (Zf 4 f == false) = _; cases Zf 4 f <;> rfl
 exact k74
theorem ZhE (f : Nat) (hf : f < 256) (w : World) : CB 98 #[.int .u8 (f : Int), .string ⟨#[80, 69]⟩] w (.bool (ZH f 5)) := by
 have HB : Hid (ZH f 5 = (Zf 4 f)) := by show (Zf 4 f == true) = _; cases Zf 4 f <;> rfl
 exact k74
theorem k71 {P : Prop} (h : P := by
 rw [HB.out]
 obtain ⟨b128, h128⟩ : ∃ b, Zf 128 f = b := ⟨_, rfl⟩
 obtain ⟨b64, h64⟩ : ∃ b, Zf 64 f = b := ⟨_, rfl⟩
 obtain ⟨b4, h4⟩ : ∃ b, Zf 4 f = b := ⟨_, rfl⟩
 obtain ⟨b1, h1⟩ : ∃ b, Zf 1 f = b := ⟨_, rfl⟩
 have HO : Hid (∀ w, Calls Tryz.prog 164 #[.int .u8 (f : Int)] w fun e w' => e = .returned (.agg #[.bool b128, .bool b64, .bool (Zf 32 f), .bool (Zf 16 f), .bool (Zf 8 f), .bool b4, .bool (Zf 2 f), .bool b1]) ∧ Below w.heap.size w w') := by
  rw [← h128, ← h64, ← h4, ← h1]; exact WA f hf
 rw [h128]
 exact k6) : P := h
theorem ZkF (f : Nat) (hf : f < 256) (w : World) : CB 98 #[.int .u8 (f : Int), .string ⟨#[80]⟩] w (.bool (ZH f 6)) := by
 have HB : Hid (ZH f 6 = !(Zf 128 f)) := by show (Zf 128 f == false) = _; cases Zf 128 f <;> rfl
 exact k71
theorem ZkG (f : Nat) (hf : f < 256) (w : World) : CB 98 #[.int .u8 (f : Int), .string ⟨#[77]⟩] w (.bool (ZH f 7)) := by
 have HB : Hid (ZH f 7 = (Zf 128 f)) := by show (Zf 128 f == true) = _; cases Zf 128 f <;> rfl
 exact k71
theorem ZhF (f k : Nat) (hf : f < 256) (hk : k < 8) (b : Bool) (hb : Hid (ZH f k = b)) (w : World) : CB 98 #[.int .u8 (f : Int), .string (rgCond k)] w (.bool b) := by
 rw [← hb.out]
 match k, hk with
 | 0, _ => exact ZhB f hf w
 | 1, _ => exact ZkD f hf w
 | 2, _ => exact ZhC f hf w
 | 3, _ => exact ZkE f hf w
 | 4, _ => exact ZhD f hf w
 | 5, _ => exact ZhE f hf w
 | 6, _ => exact ZkF f hf w
 | 7, _ => exact ZkG f hf w
theorem Rg.swap_fits {r : Rg} (h : r.Fits) (all : Bool) : (r.swap all).Fits := by
 cases all
 ·exact { h with a := h.x0, f := h.x1, x0 := h.a, x1 := h.f }
 ·exact { h with b := h.x2, c := h.x3, d := h.x4, e := h.x5, h := h.x6, l := h.x7, x2 := h.b, x3 := h.c, x4 := h.d, x5 := h.e, x6 := h.h, x7 := h.l }
theorem ZeM (h : Hid (Co W0 w c b s l (n + 1))) :
  CX 138 #[.pointer (some ⟨c, 0, none⟩), .int .i64 0] w (.int .i64 4) fun w' => Hid (Co W0 w' c b (s) l n) := by
 obtain ⟨X, HF, HG, HX, HM⟩ := h.out.hid
 have HF0 := HF
 clear h
 go_enter Tryz.func138, Tryz.ntmps138
 go_wp2_with (first | refine cG ?_ | (refine cP ?_; clear HM; intro w' HM))
 go_ret
 have hco := Co.ok HM.out HG.out HX.out
 exact ⟨rfl, Zb (hco.less (by omega))⟩
theorem ZeN (h : Hid (Co W0 w c b s l (n + 1))) :
  CX 138 #[.pointer (some ⟨c, 0, none⟩), .int .i64 1] w (.int .i64 4) fun w' => Hid (Co W0 w' c b (s.setR (s.r.swap false)) l n) := by
 obtain ⟨X, hf, HF, HG, HX, HM⟩ := h.out.hif
 have HF0 := HF
 have hg := HG.out
 have hX := HX.out
 have hO := HM.out
 have hR : (s.r.swap false).Fits := Rg.swap_fits hf.r _
 clear h hf hg hX hO
 go_enter Tryz.func138, Tryz.ntmps138
 go_wp2_with (first | refine cG ?_ | (refine cP ?_; clear HM; intro w' HM) | (go_at_call 197; (with_reducible refine (vZ _ _).mono ?_); rintro e w' ⟨rfl, hb⟩; replace HM := Zb (HM.out.call hb); clear hb))
 go_ret
 have hco := Co.ok HM.out HG.out HX.out
 exact ⟨rfl, Zb (hco.less (by omega))⟩
theorem ZeO (h : Hid (Co W0 w c b s l (n + 1))) :
  CX 138 #[.pointer (some ⟨c, 0, none⟩), .int .i64 2] w (.int .i64 ((Cs.hopC (decide (s.decB ≠ 0)) 13 : Nat) : Int)) fun w' => Hid (Co W0 w' c b ((s.setB s.decB).hop (decide (s.decB ≠ 0))) l n) := by
 obtain ⟨X, hf, HF, HG, HX, HM⟩ := h.out.hif
 have HF0 := HF
 have hg := HG.out
 have hX := HX.out
 have hO := HM.out
 have d1 : s.decB < 256 := Nat.mod_lt _ (by decide)
 obtain ⟨m, hm⟩ : ∃ m, Hid (decide (s.decB ≠ 0) = m) := ⟨_, rfl⟩
 rw [hm.out]
 have e1 : IntKind.u8.wrap ((s.r.b : Int) - 1) = ((s.decB : Nat) : Int) := by unfold Cs.decB; show ((s.r.b : Int) - 1) % 256 = _; have := hf.r.b; omega
 have e2 : (((s.setB s.decB).r.b : Int) != 0) = m := by rw [← hm.out]; show ((s.decB : Int) != 0) = _; rw [Bool.eq_iff_iff]; simp
 clear h hf hg hX hO
 go_enter Tryz.func138, Tryz.ntmps138
 go_wp2_with (first | refine cG ?_ | (refine cP ?_; clear HM; intro w' HM) | (go_at_call 198; have hco := Za HM HG HX; (with_reducible refine (ZkC _ hco).mono (coK ?_)); clear hco HM HF HG HX; intro w' X HF HG HX HM))
 go_ret
 have hco := Co.ok HM.out HG.out HX.out
 exact ⟨rfl, Zb (hco.less (by omega))⟩
theorem ZeP (h : Hid (Co W0 w c b s l (n + 1))) :
  CX 138 #[.pointer (some ⟨c, 0, none⟩), .int .i64 3] w (.int .i64 ((Cs.hopC true 12 : Nat) : Int)) fun w' => Hid (Co W0 w' c b (s.hop true) l n) := by
 obtain ⟨X, HF, HG, HX, HM⟩ := h.out.hid
 have HF0 := HF
 clear h
 go_enter Tryz.func138, Tryz.ntmps138
 go_wp2_with (first | refine cG ?_ | (refine cP ?_; clear HM; intro w' HM) | (go_at_call 198; have hco := Za HM HG HX; (with_reducible refine (Zgz true hco).mono (coK ?_)); clear hco HM HF HG HX; intro w' X HF HG HX HM))
 go_ret
 have hco := Co.ok HM.out HG.out HX.out
 exact ⟨rfl, Zb (hco.less (by omega))⟩
theorem Zb4 (hT : Tab w) (y : Nat) (hy : 4 ≤ y ∧ y < 8) (h : Hid (Co W0 w c b s l (n + 1))) :
  CX 138 #[.pointer (some ⟨c, 0, none⟩), .int .i64 (y : Int)] w (.int .i64 ((Cs.hopC (ZH s.r.f (y - 4)) 12 : Nat) : Int)) fun w' => Hid (Co W0 w' c b (s.hop (ZH s.r.f (y - 4))) l n) := by
 obtain ⟨X, hf, HF, HG, HX, HM⟩ := h.out.hif
 have HF0 := HF
 have hg := HG.out
 have hX := HX.out
 have hO := HM.out
 have f1 : s.r.f < 256 := hf.r.f
 obtain ⟨k, hk⟩ : ∃ k, k = y - 4 := ⟨_, rfl⟩
 rw [← hk]
 have y0 : ((y : Int) == 0) = false := by simp; omega
 have y1 : ((y : Int) == 1) = false := by simp; omega
 have y2 : ((y : Int) == 2) = false := by simp; omega
 have y3 : ((y : Int) == 3) = false := by simp; omega
 have e1 : IntKind.i64.wrap ((y : Int) - 4) = (k : Int) := by rw [IntKind.wrap_i64]; omega
 have k8 : (k : Int) % 8 = ((k : Nat) : Int) := by omega
 have HT := Zb hT
 have hT0 : Tab W0 → Tab w := fun _ => hT
 clear hy hk hT0
 clear h hf hg hX hO
 go_enter Tryz.func138, Tryz.ntmps138
 go_wp2_with (first | refine cG ?_ | (refine cP ?_; clear HM; intro w' HM) | (go_at_call 153; (with_reducible refine (yF s.r.f k _ f1 k8 _ (Zb rfl) _ HT.out).mono ?_); rintro e w' ⟨rfl, rfl⟩) | (go_at_call 198; have hco := Za HM HG HX; (with_reducible refine (Zgz _ hco).mono (coK ?_)); clear hco HM HF HG HX; intro w' X HF HG HX HM))
 go_ret
 have hco := Co.ok HM.out HG.out HX.out
 exact ⟨rfl, Zb (hco.less (by omega))⟩
def modeTab : List Int := [0, 0, 1, 2]
theorem Zac (y : Nat) : modeTab.getD (y % 4) 0 = (Cs.modeV y : Int) := by
 unfold Cs.modeV
 have h : y % 4 < 4 := Nat.mod_lt _ (by decide)
 generalize y % 4 = k at h
 match k, h with
 | 0, _ | 1, _ | 2, _ | 3, _ => rfl
structure Tabs (w : World) : Prop where
 ask : Tab w
 mode : ∀ j : Nat, j < 4 → w.cell? ⟨0, j, none⟩ = some (.int .u8 (modeTab.getD j 0))
theorem Tabs.under {B : Nat} {w w' : World} (h : Tabs w) (hb : Below B w w') (hB : w.heap.size ≤ B) : Tabs w' := ⟨h.ask.under hb hB, fun j hj =>
 (hb.cell (p := ⟨0, j, none⟩) (Nat.lt_of_lt_of_le (block_lt_of_cell (h.mode j hj)) hB)).trans (h.mode j hj)⟩
theorem Tabs.own {w0 w : World} (h : Hid (Tabs w0)) (HM : Hid (Own w0 w l)) : Tabs w := h.out.under HM.out.below (Nat.le_refl _)
theorem Co.tabs (h : Hid (Co W0 w c b s l n)) (hT : Hid (Tabs W0)) : Tabs w := by
 obtain ⟨_, _, X, hX, hO⟩ := h.out.out
 exact hT.out.under hO.below (Nat.le_refl _)
theorem ja (i : Int) (hi : ¬ i = 6) (h : Hid (Co W0 w c b s l (n))) :
  CX 74 #[.pointer (some ⟨c, 0, none⟩), .int .i64 i] w (.tuple #[.int .u8 (s.one i : Int), .int .i64 4]) fun w' => Hid (Co W0 w' c b (s) l n) := by
 obtain ⟨X, hf, HF, HG, HX, HM⟩ := h.out.hif
 have HF0 := HF
 have hg := HG.out
 have hX := HX.out
 have hO := HM.out
 have i1 : (i == 6) = false := by simp; exact hi
 clear hi h hf hg hX hO
 go_enter Tryz.func74, Tryz.ntmps74
 go_wp2_with (first | refine cG ?_ | (refine cP ?_; clear HM; intro w' HM) | (go_at_call 68; (with_reducible refine (Vq .z HM HF.out _).mono ?_); rintro e w' ⟨rfl, hb⟩; replace HM := Zb (HM.out.call hb); clear hb))
 go_ret2
 have hco := Co.ok HM.out HG.out HX.out
 exact ⟨rfl, Zb (hco.less (by omega))⟩
theorem Zad (i : Nat) (h : Hid (Co W0 w c b s l (n + 2))) :
  CX 74 #[.pointer (some ⟨c, 0, none⟩), .int .i64 (i : Int)] w (.tuple #[.int .u8 (s.operV i : Int), .int .i64 ((s.operC i : Nat) : Int)]) fun w' => Hid (Co W0 w' c b (s.oper i) l n) := by
 by_cases hi : i = 6
 ·subst hi
  rw [show ((6 : Nat) : Int) = 6 from rfl]
  have e1 : s.operV 6 = s.m s.pointV := if_pos rfl
  have e2 : s.oper 6 = s.point.rd s.pointV := if_pos rfl
  rw [e1, e2]
  by_cases hp : s.px = 0
  ·have e3 : s.operC 6 = 7 := (if_pos rfl).trans (if_pos hp)
   rw [e3]; exact Ws hp h
  ·have e3 : s.operC 6 = 15 := (if_pos rfl).trans (if_neg hp)
   rw [e3]; exact zU hp h
 ·have hi' : ¬ (i : Int) = 6 := by omega
  have e1 : s.operV i = s.one i := if_neg hi'
  have e2 : s.oper i = s := if_neg hi'
  have e3 : s.operC i = 4 := if_neg hi'
  rw [e1, e2, e3]
  exact (ja (n := n + 2) (i : Int) hi' h).mono fun _ _ ⟨he, hh⟩ => ⟨he, Zb (hh.out.less (by omega))⟩
theorem WB (y : Nat) (h : Hid (Co W0 w c b s l (n + 3))) :
  CX 144 #[.pointer (some ⟨c, 0, none⟩), .int .i64 (y : Int), Value.func (Fn.func 145) #[] #[]] w (.int .i64 ((s.countC y : Nat) : Int)) fun w' => Hid (Co W0 w' c b (s.count (y : Int) false) l n) := by
 by_cases hy : y = 6
 ·subst hy
  rw [show ((6 : Nat) : Int) = 6 from rfl]
  by_cases hp : s.px = 0
  ·have e3 : s.countC 6 = 11 := (if_pos rfl).trans (if_pos hp)
   rw [e3]; exact J3 hp h
  ·have e3 : s.countC 6 = 19 := (if_pos rfl).trans (if_neg hp)
   rw [e3]; exact KB hp h
 ·have e3 : s.countC y = 4 := if_neg hy
  rw [e3]
  exact (UD (n := n + 2) (y : Int) (by omega) h).mono fun _ _ ⟨he, hh⟩ => ⟨he, Zb (hh.out.less (by omega))⟩
theorem WC (y : Nat) (h : Hid (Co W0 w c b s l (n + 3))) :
  CX 144 #[.pointer (some ⟨c, 0, none⟩), .int .i64 (y : Int), Value.func (Fn.func 146) #[] #[]] w (.int .i64 ((s.countC y : Nat) : Int)) fun w' => Hid (Co W0 w' c b (s.count (y : Int) true) l n) := by
 by_cases hy : y = 6
 ·subst hy
  rw [show ((6 : Nat) : Int) = 6 from rfl]
  by_cases hp : s.px = 0
  ·have e3 : s.countC 6 = 11 := (if_pos rfl).trans (if_pos hp)
   rw [e3]; exact J4 hp h
  ·have e3 : s.countC 6 = 19 := (if_pos rfl).trans (if_neg hp)
   rw [e3]; exact KC hp h
 ·have e3 : s.countC y = 4 := if_neg hy
  rw [e3]
  exact (UE (n := n + 2) (y : Int) (by omega) h).mono fun _ _ ⟨he, hh⟩ => ⟨he, Zb (hh.out.less (by omega))⟩
theorem jb (y : Nat) (h : Hid (Co W0 w c b s l (n + 3))) :
  CX 147 #[.pointer (some ⟨c, 0, none⟩), .int .i64 (y : Int)] w (.int .i64 ((s.moveNextC y : Nat) : Int)) fun w' => Hid (Co W0 w' c b (s.moveNext y) l n) := by
 by_cases hy : y = 6
 ·subst hy
  rw [show ((6 : Nat) : Int) = 6 from rfl]
  have e2 : s.moveNext 6 = s.point.next.wr s.pointV s.point.nextV := if_pos rfl
  rw [e2]
  by_cases hp : s.px = 0
  ·have e3 : s.moveNextC 6 = 10 := (if_pos rfl).trans (if_pos hp)
   rw [e3]; exact UF hp h
  ·have e3 : s.moveNextC 6 = 15 := (if_pos rfl).trans (if_neg hp)
   rw [e3]; exact Wu hp h
 ·have e2 : s.moveNext y = s.next.setOne y s.nextV := if_neg hy
  have e3 : s.moveNextC y = 7 := if_neg hy
  rw [e2, e3]
  exact (Wt (n := n + 1) (y : Int) (by omega) h).mono fun _ _ ⟨he, hh⟩ => ⟨he, Zb (hh.out.less (by omega))⟩
theorem Zae (x y z p q : Nat) (h : Hid (Co W0 w c b s l (n + 3))) :
  CX 73 #[.pointer (some ⟨c, 0, none⟩), .agg #[.int .i64 (x : Int), .int .i64 (y : Int), .int .i64 (z : Int), .int .i64 (p : Int), .int .i64 (q : Int)]] w (.int .i64 ((s.moveC y z : Nat) : Int)) fun w' => Hid (Co W0 w' c b (s.move y z) l n) := by
 by_cases hy : y = 6
 ·subst hy
  rw [show ((6 : Nat) : Int) = 6 from rfl]
  by_cases hz : z = 6
  ·subst hz
   rw [show ((6 : Nat) : Int) = 6 from rfl]
   have e2 : s.move 6 6 = s.setHT true := (if_pos rfl).trans (if_pos rfl)
   have e3 : s.moveC 6 6 = 4 := (if_pos rfl).trans (if_pos rfl)
   rw [e2, e3]
   exact (ZbW (n := n + 3) x p q h).mono fun _ _ ⟨he, hh⟩ => ⟨he, Zb (hh.out.less (by omega))⟩
  ·have e2 : s.move 6 z = s.point.wr s.pointV (s.own z) := (if_pos rfl).trans (if_neg hz)
   rw [e2]
   by_cases hp : s.px = 0
   ·have e3 : s.moveC 6 z = 7 := (if_pos rfl).trans ((if_neg hz).trans (if_pos hp))
    rw [e3]; exact Wv x z p q hz hp h
   ·have e3 : s.moveC 6 z = 15 := (if_pos rfl).trans ((if_neg hz).trans (if_neg hp))
    rw [e3]; exact zV x z p q hz hp h
 ·by_cases hz : z = 6
  ·subst hz
   rw [show ((6 : Nat) : Int) = 6 from rfl]
   have e2 : s.move y 6 = (s.point.rd s.pointV).setOwn y (s.m s.pointV) := (if_neg hy).trans (if_pos rfl)
   rw [e2]
   by_cases hp : s.px = 0
   ·have e3 : s.moveC y 6 = 7 := (if_neg hy).trans ((if_pos rfl).trans (if_pos hp))
    rw [e3]; exact VS x y p q hy hp h
   ·have e3 : s.moveC y 6 = 15 := (if_neg hy).trans ((if_pos rfl).trans (if_neg hp))
    rw [e3]; exact UG x y p q hy hp h
  ·have e2 : s.move y z = s.setOne y (s.one z) := (if_neg hy).trans (if_neg hz)
   have e3 : s.moveC y z = 4 := (if_neg hy).trans (if_neg hz)
   rw [e2, e3]
   exact (ZbX (n := n + 3) x y z p q hy hz h).mono fun _ _ ⟨he, hh⟩ => ⟨he, Zb (hh.out.less (by omega))⟩
theorem Zb5 (y : Nat) (hy : y < 8) (h : Hid (Co W0 w c b s l (n))) :
  CX 148 #[.pointer (some ⟨c, 0, none⟩), .int .i64 (y : Int)] w (.tuple #[]) fun w' => Hid (Co W0 w' c b (s.quick y) l n) := by
 by_cases h1 : y < 4
 ·exact ZeI y h1 h
 ·by_cases h2 : y = 4
  ·subst h2
   rw [show ((4 : Nat) : Int) = 4 from rfl]
   exact ZeJ 4 rfl h
  ·exact ZeK y (by omega) h
theorem Zb6 (hT : Hid (Tabs W0)) (y : Nat) (hy : y < 8) (h : Hid (Co W0 w c b s l (n + 1))) :
  CX 138 #[.pointer (some ⟨c, 0, none⟩), .int .i64 (y : Int)] w (.int .i64 ((s.startsC y : Nat) : Int)) fun w' => Hid (Co W0 w' c b (s.starts y) l n) := by
 by_cases h0 : y = 0
 ·subst h0
  rw [show ((0 : Nat) : Int) = 0 from rfl]
  have e2 : s.starts 0 = s := if_pos (by omega)
  have e3 : s.startsC 0 = 4 := if_pos (by omega)
  rw [e2, e3]; exact ZeM h
 by_cases h1 : y = 1
 ·subst h1
  rw [show ((1 : Nat) : Int) = 1 from rfl]
  have e2 : s.starts 1 = s.setR (s.r.swap false) := (if_neg (by omega)).trans (if_pos (by omega))
  have e3 : s.startsC 1 = 4 := (if_neg (by omega)).trans (if_pos (by omega))
  rw [e2, e3]; exact ZeN h
 by_cases h2 : y = 2
 ·subst h2
  rw [show ((2 : Nat) : Int) = 2 from rfl]
  have e2 : s.starts 2 = (s.setB s.decB).hop (decide (s.decB ≠ 0)) := (if_neg (by omega)).trans ((if_neg (by omega)).trans (if_pos (by omega)))
  have e3 : s.startsC 2 = Cs.hopC (decide (s.decB ≠ 0)) 13 := (if_neg (by omega)).trans ((if_neg (by omega)).trans (if_pos (by omega)))
  rw [e2, e3]; exact ZeO h
 by_cases h3 : y = 3
 ·subst h3
  rw [show ((3 : Nat) : Int) = 3 from rfl]
  have e2 : s.starts 3 = s.hop true := (if_neg (by omega)).trans ((if_neg (by omega)).trans ((if_neg (by omega)).trans (if_pos (by omega))))
  have e3 : s.startsC 3 = Cs.hopC true 12 := (if_neg (by omega)).trans ((if_neg (by omega)).trans ((if_neg (by omega)).trans (if_pos (by omega))))
  rw [e2, e3]; exact ZeP h
 have e2 : s.starts y = s.hop (ZH s.r.f (y - 4)) := (if_neg (by omega)).trans ((if_neg (by omega)).trans ((if_neg (by omega)).trans (if_neg (by omega))))
 have e3 : s.startsC y = Cs.hopC (ZH s.r.f (y - 4)) 12 := (if_neg (by omega)).trans ((if_neg (by omega)).trans ((if_neg (by omega)).trans (if_neg (by omega))))
 rw [e2, e3]; exact Zb4 (Co.tabs h hT).ask y (by omega) h
theorem Zaf (y p q : Nat) (hy : y < 8) (hp : y / 2 = p) (hq : y % 2 = q) (h : Hid (Co W0 w c b s l (n + 4))) :
  CX 142 #[.pointer (some ⟨c, 0, none⟩), .agg #[.int .i64 0, .int .i64 (y : Int), .int .i64 2, .int .i64 (p : Int), .int .i64 (q : Int)]] w (.int .i64 ((Cs.moveFarC y : Nat) : Int)) fun w' => Hid (Co W0 w' c b (s.moveFar y) l n) := by
 by_cases h0 : p = 0
 ·subst h0
  rw [show ((0 : Nat) : Int) = 0 from rfl]
  have e2 : s.moveFar y = s.moveA (y % 2) (s.pair 0) := if_pos (by omega)
  have e3 : Cs.moveFarC y = 7 := if_pos (by omega)
  rw [e2, e3, hq]; exact ZbY y q h
 by_cases h1 : p = 1
 ·subst h1
  rw [show ((1 : Nat) : Int) = 1 from rfl]
  have e2 : s.moveFar y = s.moveA (y % 2) (s.pair 1) := (if_neg (by omega)).trans (if_pos (by omega))
  have e3 : Cs.moveFarC y = 7 := (if_neg (by omega)).trans (if_pos (by omega))
  rw [e2, e3, hq]; exact ZbZ y q h
 by_cases h2 : p = 2
 ·subst h2
  rw [show ((2 : Nat) : Int) = 2 from rfl]
  have e2 : s.moveFar y = s.movePair (y % 2) 2 := (if_neg (by omega)).trans ((if_neg (by omega)).trans (if_pos (by omega)))
  have e3 : Cs.moveFarC y = 16 := (if_neg (by omega)).trans ((if_neg (by omega)).trans (if_pos (by omega)))
  rw [e2, e3, hq]; exact Zb0 y q h
 have h3 : p = 3 := by omega
 subst h3
 rw [show ((3 : Nat) : Int) = 3 from rfl]
 have e2 : s.moveFar y = s.nextNum.moveA (y % 2) s.nextNumV := (if_neg (by omega)).trans ((if_neg (by omega)).trans (if_neg (by omega)))
 have e3 : Cs.moveFarC y = 13 := (if_neg (by omega)).trans ((if_neg (by omega)).trans (if_neg (by omega)))
 rw [e2, e3, hq]; exact Zb1 y q h
theorem WD (x y p q : Nat) (hp : y / 2 = p) (hq : y % 2 = q) (h : Hid (Co W0 w c b s l (n))) :
  CX 143 #[.pointer (some ⟨c, 0, none⟩), .agg #[.int .i64 (x : Int), .int .i64 (y : Int), .int .i64 3, .int .i64 (p : Int), .int .i64 (q : Int)]] w (.tuple #[]) fun w' => Hid (Co W0 w' c b (s.countPair y) l n) := by
 by_cases h0 : q = 0
 ·subst h0
  rw [show ((0 : Nat) : Int) = 0 from rfl]
  have e2 : s.countPair y = s.setPair (p : Nat) (up1 (s.pair (p : Nat))) := by rw [← hp]; exact if_pos hq
  rw [e2]; exact zW x y 3 p h
 ·have h1 : q = 1 := by omega
  subst h1
  rw [show ((1 : Nat) : Int) = 1 from rfl]
  have e2 : s.countPair y = s.setPair (p : Nat) (dn1 (s.pair (p : Nat))) := by rw [← hp]; exact if_neg (by omega)
  rw [e2]; exact zX x y 3 p h
end
end Go.Proofs.YtgdeeiimkhjfiaaGreatDoor
