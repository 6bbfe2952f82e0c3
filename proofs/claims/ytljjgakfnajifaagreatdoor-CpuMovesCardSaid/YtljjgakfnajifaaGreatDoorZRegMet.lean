import Derived.Test.YtljjgakfnajifaaGreatDoorZBase
namespace Go.Proofs.YtljjgakfnajifaaGreatDoor
open Go.RowKit
def rgCond : Nat → ByteArray
  | 0 => ⟨#[78, 90]⟩
  | 1 => ⟨#[90]⟩
  | 2 => ⟨#[78, 67]⟩
  | 3 => ⟨#[67]⟩
  | 4 => ⟨#[80, 79]⟩
  | 5 => ⟨#[80, 69]⟩
  | 6 => ⟨#[80]⟩
  | _ => ⟨#[77]⟩
theorem met_bit (f j : Nat) (hf : f < 256) (hj : j < 4) : (((f &&& askBit j : Nat) : Int) != 0) = nBit (askBit j) f := by
  have h : (Nat.beq (f &&& askBit j) 0).not = nBit (askBit j) f := by
    match j, hj with
    | 0, _ => exact eq_of_beq (allB_at (show allB 256 (fun f => ((Nat.beq (Nat.land f 64) 0).not == nBit 64 f)) = true by decide +kernel) f hf)
    | 1, _ => exact eq_of_beq (allB_at (show allB 256 (fun f => ((Nat.beq (Nat.land f 1) 0).not == nBit 1 f)) = true by decide +kernel) f hf)
    | 2, _ => exact eq_of_beq (allB_at (show allB 256 (fun f => ((Nat.beq (Nat.land f 4) 0).not == nBit 4 f)) = true by decide +kernel) f hf)
    | 3, _ => exact eq_of_beq (allB_at (show allB 256 (fun f => ((Nat.beq (Nat.land f 128) 0).not == nBit 128 f)) = true by decide +kernel) f hf)
  rw [← h, Bool.eq_iff_iff, bne_iff_ne, Bool.not_eq_true', ← Bool.not_eq_true, Nat.beq_eq]
  omega
def askTab : List Int := [64, 1, 4, 128]
theorem askTab_at (j : Nat) (hj : j < 4) : askTab.getD j 0 = (askBit j : Int) := by
  match j, hj with
  | 0, _ | 1, _ | 2, _ | 3, _ => rfl
def Tab (w : World) : Prop := ∀ j : Nat, j < 4 → w.cell? ⟨1, j, none⟩ = some (.int .u8 (askTab.getD j 0))
theorem Tab.under {B : Nat} {w w' : World} (h : Tab w) (hb : Below B w w') (hB : w.heap.size ≤ B) : Tab w' := fun j hj =>
  (hb.cell (p := ⟨1, j, none⟩) (Nat.lt_of_lt_of_le (block_lt_of_cell (h j hj)) hB)).trans (h j hj)
theorem Tab.own {w0 w : World} {l : List (Nat × TypeId × List Value)} (h : Hid (Tab w0)) (HM : Hid (Own w0 w l)) : Tab w := h.out.under HM.out.below (Nat.le_refl _)
set_option maxHeartbeats 800000 in
theorem met_at (f k : Nat) (c : Int) (hf : f < 256) (hk : c % 8 = (k : Int)) (b : Bool) (hb : Hid (rgMet f k = b)) (w : World) (hT : Tab w) :
    Calls Tryz.prog 166 #[.int .u8 (f : Int), .int .i64 c] w fun e w' => e = .returned (.bool b) ∧ w = w' := by
  have k1 : k < 8 := by omega
  obtain ⟨j, hj⟩ : ∃ j, k / 2 = j := ⟨_, rfl⟩
  have j1 : j < 4 := by omega
  have h3 : bits .and .i64 (c / 2) 3 = (j : Int) := by rw [i64_low2]; omega
  have h1 : bits .and .i64 c 1 = ((k % 2 : Nat) : Int) := by rw [i64_low1]; omega
  obtain ⟨o, ho⟩ : ∃ o, k % 2 = o := ⟨_, rfl⟩
  rw [ho] at h1
  have ct := hT j j1
  rw [askTab_at j j1] at ct
  have hm := met_bit f j hf j1
  obtain ⟨M, hM⟩ : ∃ M, askBit j = M := ⟨_, rfl⟩
  have M1 : M < 256 := by rw [← hM]; match j with | 0 => decide | 1 => decide | 2 => decide | _ + 3 => exact (by decide : (128 : Nat) < 256)
  have HB : Hid ((nBit M f == Nat.beq o 1) = b) := by show _ = _; rw [← hb.out, rgMet, hj, hM, ho]
  rw [hM] at hm ct
  obtain ⟨X, hX⟩ : ∃ X, f &&& M = X := ⟨_, rfl⟩
  have e1 : bits .and .u8 (f : Int) (M : Int) = (X : Int) := by rw [u8_and f M (by omega) (by omega) (by omega) (by omega), ← hX]; rfl
  rw [hX] at hm
  obtain ⟨t, ht⟩ : ∃ t, nBit M f = t := ⟨_, rfl⟩
  rw [ht] at hm HB
  have o2 : ((o : Int) != 0) = Nat.beq o 1 := by
    rcases (show o = 0 ∨ o = 1 by omega) with rfl | rfl <;> rfl
  obtain ⟨u, hu⟩ : ∃ u, Nat.beq o 1 = u := ⟨_, rfl⟩
  rw [hu] at o2 HB
  have j2 : (j : Int) < 4 := by omega
  clear hb hk hj ho hM hX ht hu hT k1 j1
  go_enter Tryz.func166, Tryz.ntmps166
  go_wp2
  go_ret
  exact ⟨by rw [← HB.out]; rfl, rfl⟩
set_option maxRecDepth 100000 in
set_option maxHeartbeats 800000 in
theorem rmet_NZ (f : Nat) (hf : f < 256) (w : World) : Calls Tryz.prog 115 #[.int .u8 (f : Int), .string ⟨#[78, 90]⟩] w fun e w' => e = .returned (.bool (rgMet f 0)) ∧ Below w.heap.size w w' := by
  have HB : Hid (rgMet f 0 = !(nBit 64 f)) := by show (nBit 64 f == false) = _; cases nBit 64 f <;> rfl
  rw [HB.out]
  obtain ⟨b128, h128⟩ : ∃ b, nBit 128 f = b := ⟨_, rfl⟩
  obtain ⟨b64, h64⟩ : ∃ b, nBit 64 f = b := ⟨_, rfl⟩
  obtain ⟨b4, h4⟩ : ∃ b, nBit 4 f = b := ⟨_, rfl⟩
  obtain ⟨b1, h1⟩ : ∃ b, nBit 1 f = b := ⟨_, rfl⟩
  have HO : Hid (∀ w, Calls Tryz.prog 177 #[.int .u8 (f : Int)] w fun e w' => e = .returned (.agg #[.bool b128, .bool b64, .bool (nBit 32 f), .bool (nBit 16 f), .bool (nBit 8 f), .bool b4, .bool (nBit 2 f), .bool b1]) ∧ Below w.heap.size w w') := by
    rw [← h128, ← h64, ← h4, ← h1]; exact of_at f hf
  rw [h64]
  clear HB h128 h64 h4 h1 hf
  have HM := Lib.hid (Own.start w)
  have tg1 : Hid True := trivial
  have tg2 : Hid True := trivial
  go_enter Tryz.func115, Tryz.ntmps115
  go_wp2_with (first
    | ((with_reducible apply own_box HM); exact rfl; (conv => lhs; whnf); exact rfl; exact rfl; (first | (clear tg1 HM; intro w' g1 HM) | (clear tg2 HM; intro w' g2 HM) | (clear tg3 HM; intro w' g3 HM) | (clear tg4 HM; intro w' g4 HM) | (clear HM; intro w' g' HM))) | ((with_reducible apply own_alloc HM); exact rfl; (first | (with_reducible exact zeroF)); exact rfl; (first | (clear tg1 HM; intro w' g1 HM) | (clear tg2 HM; intro w' g2 HM) | (clear tg3 HM; intro w' g3 HM) | (clear tg4 HM; intro w' g4 HM) | (clear HM; intro w' g' HM))) | ((with_reducible apply own_cell HM); exact rfl; exact rfl; (first | (with_reducible exact oneBool)); exact sS; exact dS; exact rfl) | ((with_reducible apply own_load HM); exact rfl; exact rfl; (first | (with_reducible exact aggF)); exact sS; exact dS; exact tS; exact rfl) | ((with_reducible apply own_store HM); exact rfl; exact rfl; (conv => lhs; whnf); exact rfl; exact sS; exact vS; exact sS; (first | (with_reducible exact (aggF).size) | (with_reducible exact (oneBool).size)); exact rfl; exact rfl; exact rfl; exact rfl; clear HM; intro w' HM)
    | (go_at_call 177; (with_reducible refine (HO.out _).mono ?_); rintro e w' ⟨rfl, hb⟩; replace HM := Lib.hid (HM.out.call hb); clear hb))
  go_ret
  exact ⟨rfl, Own.fin HM⟩
set_option maxRecDepth 100000 in
set_option maxHeartbeats 800000 in
theorem rmet_Z (f : Nat) (hf : f < 256) (w : World) : Calls Tryz.prog 115 #[.int .u8 (f : Int), .string ⟨#[90]⟩] w fun e w' => e = .returned (.bool (rgMet f 1)) ∧ Below w.heap.size w w' := by
  have HB : Hid (rgMet f 1 = (nBit 64 f)) := by show (nBit 64 f == true) = _; cases nBit 64 f <;> rfl
  rw [HB.out]
  obtain ⟨b128, h128⟩ : ∃ b, nBit 128 f = b := ⟨_, rfl⟩
  obtain ⟨b64, h64⟩ : ∃ b, nBit 64 f = b := ⟨_, rfl⟩
  obtain ⟨b4, h4⟩ : ∃ b, nBit 4 f = b := ⟨_, rfl⟩
  obtain ⟨b1, h1⟩ : ∃ b, nBit 1 f = b := ⟨_, rfl⟩
  have HO : Hid (∀ w, Calls Tryz.prog 177 #[.int .u8 (f : Int)] w fun e w' => e = .returned (.agg #[.bool b128, .bool b64, .bool (nBit 32 f), .bool (nBit 16 f), .bool (nBit 8 f), .bool b4, .bool (nBit 2 f), .bool b1]) ∧ Below w.heap.size w w') := by
    rw [← h128, ← h64, ← h4, ← h1]; exact of_at f hf
  rw [h64]
  clear HB h128 h64 h4 h1 hf
  have HM := Lib.hid (Own.start w)
  have tg1 : Hid True := trivial
  have tg2 : Hid True := trivial
  go_enter Tryz.func115, Tryz.ntmps115
  go_wp2_with (first
    | ((with_reducible apply own_box HM); exact rfl; (conv => lhs; whnf); exact rfl; exact rfl; (first | (clear tg1 HM; intro w' g1 HM) | (clear tg2 HM; intro w' g2 HM) | (clear tg3 HM; intro w' g3 HM) | (clear tg4 HM; intro w' g4 HM) | (clear HM; intro w' g' HM))) | ((with_reducible apply own_alloc HM); exact rfl; (first | (with_reducible exact zeroF)); exact rfl; (first | (clear tg1 HM; intro w' g1 HM) | (clear tg2 HM; intro w' g2 HM) | (clear tg3 HM; intro w' g3 HM) | (clear tg4 HM; intro w' g4 HM) | (clear HM; intro w' g' HM))) | ((with_reducible apply own_cell HM); exact rfl; exact rfl; (first | (with_reducible exact oneBool)); exact sS; exact dS; exact rfl) | ((with_reducible apply own_load HM); exact rfl; exact rfl; (first | (with_reducible exact aggF)); exact sS; exact dS; exact tS; exact rfl) | ((with_reducible apply own_store HM); exact rfl; exact rfl; (conv => lhs; whnf); exact rfl; exact sS; exact vS; exact sS; (first | (with_reducible exact (aggF).size) | (with_reducible exact (oneBool).size)); exact rfl; exact rfl; exact rfl; exact rfl; clear HM; intro w' HM)
    | (go_at_call 177; (with_reducible refine (HO.out _).mono ?_); rintro e w' ⟨rfl, hb⟩; replace HM := Lib.hid (HM.out.call hb); clear hb))
  go_ret
  exact ⟨rfl, Own.fin HM⟩
set_option maxRecDepth 100000 in
set_option maxHeartbeats 800000 in
theorem rmet_NC (f : Nat) (hf : f < 256) (w : World) : Calls Tryz.prog 115 #[.int .u8 (f : Int), .string ⟨#[78, 67]⟩] w fun e w' => e = .returned (.bool (rgMet f 2)) ∧ Below w.heap.size w w' := by
  have HB : Hid (rgMet f 2 = !(nBit 1 f)) := by show (nBit 1 f == false) = _; cases nBit 1 f <;> rfl
  rw [HB.out]
  obtain ⟨b128, h128⟩ : ∃ b, nBit 128 f = b := ⟨_, rfl⟩
  obtain ⟨b64, h64⟩ : ∃ b, nBit 64 f = b := ⟨_, rfl⟩
  obtain ⟨b4, h4⟩ : ∃ b, nBit 4 f = b := ⟨_, rfl⟩
  obtain ⟨b1, h1⟩ : ∃ b, nBit 1 f = b := ⟨_, rfl⟩
  have HO : Hid (∀ w, Calls Tryz.prog 177 #[.int .u8 (f : Int)] w fun e w' => e = .returned (.agg #[.bool b128, .bool b64, .bool (nBit 32 f), .bool (nBit 16 f), .bool (nBit 8 f), .bool b4, .bool (nBit 2 f), .bool b1]) ∧ Below w.heap.size w w') := by
    rw [← h128, ← h64, ← h4, ← h1]; exact of_at f hf
  rw [h1]
  clear HB h128 h64 h4 h1 hf
  have HM := Lib.hid (Own.start w)
  have tg1 : Hid True := trivial
  have tg2 : Hid True := trivial
  go_enter Tryz.func115, Tryz.ntmps115
  go_wp2_with (first
    | ((with_reducible apply own_box HM); exact rfl; (conv => lhs; whnf); exact rfl; exact rfl; (first | (clear tg1 HM; intro w' g1 HM) | (clear tg2 HM; intro w' g2 HM) | (clear tg3 HM; intro w' g3 HM) | (clear tg4 HM; intro w' g4 HM) | (clear HM; intro w' g' HM))) | ((with_reducible apply own_alloc HM); exact rfl; (first | (with_reducible exact zeroF)); exact rfl; (first | (clear tg1 HM; intro w' g1 HM) | (clear tg2 HM; intro w' g2 HM) | (clear tg3 HM; intro w' g3 HM) | (clear tg4 HM; intro w' g4 HM) | (clear HM; intro w' g' HM))) | ((with_reducible apply own_cell HM); exact rfl; exact rfl; (first | (with_reducible exact oneBool)); exact sS; exact dS; exact rfl) | ((with_reducible apply own_load HM); exact rfl; exact rfl; (first | (with_reducible exact aggF)); exact sS; exact dS; exact tS; exact rfl) | ((with_reducible apply own_store HM); exact rfl; exact rfl; (conv => lhs; whnf); exact rfl; exact sS; exact vS; exact sS; (first | (with_reducible exact (aggF).size) | (with_reducible exact (oneBool).size)); exact rfl; exact rfl; exact rfl; exact rfl; clear HM; intro w' HM)
    | (go_at_call 177; (with_reducible refine (HO.out _).mono ?_); rintro e w' ⟨rfl, hb⟩; replace HM := Lib.hid (HM.out.call hb); clear hb))
  go_ret
  exact ⟨rfl, Own.fin HM⟩
set_option maxRecDepth 100000 in
set_option maxHeartbeats 800000 in
theorem rmet_C (f : Nat) (hf : f < 256) (w : World) : Calls Tryz.prog 115 #[.int .u8 (f : Int), .string ⟨#[67]⟩] w fun e w' => e = .returned (.bool (rgMet f 3)) ∧ Below w.heap.size w w' := by
  have HB : Hid (rgMet f 3 = (nBit 1 f)) := by show (nBit 1 f == true) = _; cases nBit 1 f <;> rfl
  rw [HB.out]
  obtain ⟨b128, h128⟩ : ∃ b, nBit 128 f = b := ⟨_, rfl⟩
  obtain ⟨b64, h64⟩ : ∃ b, nBit 64 f = b := ⟨_, rfl⟩
  obtain ⟨b4, h4⟩ : ∃ b, nBit 4 f = b := ⟨_, rfl⟩
  obtain ⟨b1, h1⟩ : ∃ b, nBit 1 f = b := ⟨_, rfl⟩
  have HO : Hid (∀ w, Calls Tryz.prog 177 #[.int .u8 (f : Int)] w fun e w' => e = .returned (.agg #[.bool b128, .bool b64, .bool (nBit 32 f), .bool (nBit 16 f), .bool (nBit 8 f), .bool b4, .bool (nBit 2 f), .bool b1]) ∧ Below w.heap.size w w') := by
    rw [← h128, ← h64, ← h4, ← h1]; exact of_at f hf
  rw [h1]
  clear HB h128 h64 h4 h1 hf
  have HM := Lib.hid (Own.start w)
  have tg1 : Hid True := trivial
  have tg2 : Hid True := trivial
  go_enter Tryz.func115, Tryz.ntmps115
  go_wp2_with (first
    | ((with_reducible apply own_box HM); exact rfl; (conv => lhs; whnf); exact rfl; exact rfl; (first | (clear tg1 HM; intro w' g1 HM) | (clear tg2 HM; intro w' g2 HM) | (clear tg3 HM; intro w' g3 HM) | (clear tg4 HM; intro w' g4 HM) | (clear HM; intro w' g' HM))) | ((with_reducible apply own_alloc HM); exact rfl; (first | (with_reducible exact zeroF)); exact rfl; (first | (clear tg1 HM; intro w' g1 HM) | (clear tg2 HM; intro w' g2 HM) | (clear tg3 HM; intro w' g3 HM) | (clear tg4 HM; intro w' g4 HM) | (clear HM; intro w' g' HM))) | ((with_reducible apply own_cell HM); exact rfl; exact rfl; (first | (with_reducible exact oneBool)); exact sS; exact dS; exact rfl) | ((with_reducible apply own_load HM); exact rfl; exact rfl; (first | (with_reducible exact aggF)); exact sS; exact dS; exact tS; exact rfl) | ((with_reducible apply own_store HM); exact rfl; exact rfl; (conv => lhs; whnf); exact rfl; exact sS; exact vS; exact sS; (first | (with_reducible exact (aggF).size) | (with_reducible exact (oneBool).size)); exact rfl; exact rfl; exact rfl; exact rfl; clear HM; intro w' HM)
    | (go_at_call 177; (with_reducible refine (HO.out _).mono ?_); rintro e w' ⟨rfl, hb⟩; replace HM := Lib.hid (HM.out.call hb); clear hb))
  go_ret
  exact ⟨rfl, Own.fin HM⟩
set_option maxRecDepth 100000 in
set_option maxHeartbeats 800000 in
theorem rmet_PO (f : Nat) (hf : f < 256) (w : World) : Calls Tryz.prog 115 #[.int .u8 (f : Int), .string ⟨#[80, 79]⟩] w fun e w' => e = .returned (.bool (rgMet f 4)) ∧ Below w.heap.size w w' := by
  have HB : Hid (rgMet f 4 = !(nBit 4 f)) := by show (nBit 4 f == false) = _; cases nBit 4 f <;> rfl
  rw [HB.out]
  obtain ⟨b128, h128⟩ : ∃ b, nBit 128 f = b := ⟨_, rfl⟩
  obtain ⟨b64, h64⟩ : ∃ b, nBit 64 f = b := ⟨_, rfl⟩
  obtain ⟨b4, h4⟩ : ∃ b, nBit 4 f = b := ⟨_, rfl⟩
  obtain ⟨b1, h1⟩ : ∃ b, nBit 1 f = b := ⟨_, rfl⟩
  have HO : Hid (∀ w, Calls Tryz.prog 177 #[.int .u8 (f : Int)] w fun e w' => e = .returned (.agg #[.bool b128, .bool b64, .bool (nBit 32 f), .bool (nBit 16 f), .bool (nBit 8 f), .bool b4, .bool (nBit 2 f), .bool b1]) ∧ Below w.heap.size w w') := by
    rw [← h128, ← h64, ← h4, ← h1]; exact of_at f hf
  rw [h4]
  clear HB h128 h64 h4 h1 hf
  have HM := Lib.hid (Own.start w)
  have tg1 : Hid True := trivial
  have tg2 : Hid True := trivial
  go_enter Tryz.func115, Tryz.ntmps115
  go_wp2_with (first
    | ((with_reducible apply own_box HM); exact rfl; (conv => lhs; whnf); exact rfl; exact rfl; (first | (clear tg1 HM; intro w' g1 HM) | (clear tg2 HM; intro w' g2 HM) | (clear tg3 HM; intro w' g3 HM) | (clear tg4 HM; intro w' g4 HM) | (clear HM; intro w' g' HM))) | ((with_reducible apply own_alloc HM); exact rfl; (first | (with_reducible exact zeroF)); exact rfl; (first | (clear tg1 HM; intro w' g1 HM) | (clear tg2 HM; intro w' g2 HM) | (clear tg3 HM; intro w' g3 HM) | (clear tg4 HM; intro w' g4 HM) | (clear HM; intro w' g' HM))) | ((with_reducible apply own_cell HM); exact rfl; exact rfl; (first | (with_reducible exact oneBool)); exact sS; exact dS; exact rfl) | ((with_reducible apply own_load HM); exact rfl; exact rfl; (first | (with_reducible exact aggF)); exact sS; exact dS; exact tS; exact rfl) | ((with_reducible apply own_store HM); exact rfl; exact rfl; (conv => lhs; whnf); exact rfl; exact sS; exact vS; exact sS; (first | (with_reducible exact (aggF).size) | (with_reducible exact (oneBool).size)); exact rfl; exact rfl; exact rfl; exact rfl; clear HM; intro w' HM)
    | (go_at_call 177; (with_reducible refine (HO.out _).mono ?_); rintro e w' ⟨rfl, hb⟩; replace HM := Lib.hid (HM.out.call hb); clear hb))
  go_ret
  exact ⟨rfl, Own.fin HM⟩
set_option maxRecDepth 100000 in
set_option maxHeartbeats 800000 in
theorem rmet_PE (f : Nat) (hf : f < 256) (w : World) : Calls Tryz.prog 115 #[.int .u8 (f : Int), .string ⟨#[80, 69]⟩] w fun e w' => e = .returned (.bool (rgMet f 5)) ∧ Below w.heap.size w w' := by
  have HB : Hid (rgMet f 5 = (nBit 4 f)) := by show (nBit 4 f == true) = _; cases nBit 4 f <;> rfl
  rw [HB.out]
  obtain ⟨b128, h128⟩ : ∃ b, nBit 128 f = b := ⟨_, rfl⟩
  obtain ⟨b64, h64⟩ : ∃ b, nBit 64 f = b := ⟨_, rfl⟩
  obtain ⟨b4, h4⟩ : ∃ b, nBit 4 f = b := ⟨_, rfl⟩
  obtain ⟨b1, h1⟩ : ∃ b, nBit 1 f = b := ⟨_, rfl⟩
  have HO : Hid (∀ w, Calls Tryz.prog 177 #[.int .u8 (f : Int)] w fun e w' => e = .returned (.agg #[.bool b128, .bool b64, .bool (nBit 32 f), .bool (nBit 16 f), .bool (nBit 8 f), .bool b4, .bool (nBit 2 f), .bool b1]) ∧ Below w.heap.size w w') := by
    rw [← h128, ← h64, ← h4, ← h1]; exact of_at f hf
  rw [h4]
  clear HB h128 h64 h4 h1 hf
  have HM := Lib.hid (Own.start w)
  have tg1 : Hid True := trivial
  have tg2 : Hid True := trivial
  go_enter Tryz.func115, Tryz.ntmps115
  go_wp2_with (first
    | ((with_reducible apply own_box HM); exact rfl; (conv => lhs; whnf); exact rfl; exact rfl; (first | (clear tg1 HM; intro w' g1 HM) | (clear tg2 HM; intro w' g2 HM) | (clear tg3 HM; intro w' g3 HM) | (clear tg4 HM; intro w' g4 HM) | (clear HM; intro w' g' HM))) | ((with_reducible apply own_alloc HM); exact rfl; (first | (with_reducible exact zeroF)); exact rfl; (first | (clear tg1 HM; intro w' g1 HM) | (clear tg2 HM; intro w' g2 HM) | (clear tg3 HM; intro w' g3 HM) | (clear tg4 HM; intro w' g4 HM) | (clear HM; intro w' g' HM))) | ((with_reducible apply own_cell HM); exact rfl; exact rfl; (first | (with_reducible exact oneBool)); exact sS; exact dS; exact rfl) | ((with_reducible apply own_load HM); exact rfl; exact rfl; (first | (with_reducible exact aggF)); exact sS; exact dS; exact tS; exact rfl) | ((with_reducible apply own_store HM); exact rfl; exact rfl; (conv => lhs; whnf); exact rfl; exact sS; exact vS; exact sS; (first | (with_reducible exact (aggF).size) | (with_reducible exact (oneBool).size)); exact rfl; exact rfl; exact rfl; exact rfl; clear HM; intro w' HM)
    | (go_at_call 177; (with_reducible refine (HO.out _).mono ?_); rintro e w' ⟨rfl, hb⟩; replace HM := Lib.hid (HM.out.call hb); clear hb))
  go_ret
  exact ⟨rfl, Own.fin HM⟩
set_option maxRecDepth 100000 in
set_option maxHeartbeats 800000 in
theorem rmet_P (f : Nat) (hf : f < 256) (w : World) : Calls Tryz.prog 115 #[.int .u8 (f : Int), .string ⟨#[80]⟩] w fun e w' => e = .returned (.bool (rgMet f 6)) ∧ Below w.heap.size w w' := by
  have HB : Hid (rgMet f 6 = !(nBit 128 f)) := by show (nBit 128 f == false) = _; cases nBit 128 f <;> rfl
  rw [HB.out]
  obtain ⟨b128, h128⟩ : ∃ b, nBit 128 f = b := ⟨_, rfl⟩
  obtain ⟨b64, h64⟩ : ∃ b, nBit 64 f = b := ⟨_, rfl⟩
  obtain ⟨b4, h4⟩ : ∃ b, nBit 4 f = b := ⟨_, rfl⟩
  obtain ⟨b1, h1⟩ : ∃ b, nBit 1 f = b := ⟨_, rfl⟩
  have HO : Hid (∀ w, Calls Tryz.prog 177 #[.int .u8 (f : Int)] w fun e w' => e = .returned (.agg #[.bool b128, .bool b64, .bool (nBit 32 f), .bool (nBit 16 f), .bool (nBit 8 f), .bool b4, .bool (nBit 2 f), .bool b1]) ∧ Below w.heap.size w w') := by
    rw [← h128, ← h64, ← h4, ← h1]; exact of_at f hf
  rw [h128]
  clear HB h128 h64 h4 h1 hf
  have HM := Lib.hid (Own.start w)
  have tg1 : Hid True := trivial
  have tg2 : Hid True := trivial
  go_enter Tryz.func115, Tryz.ntmps115
  go_wp2_with (first
    | ((with_reducible apply own_box HM); exact rfl; (conv => lhs; whnf); exact rfl; exact rfl; (first | (clear tg1 HM; intro w' g1 HM) | (clear tg2 HM; intro w' g2 HM) | (clear tg3 HM; intro w' g3 HM) | (clear tg4 HM; intro w' g4 HM) | (clear HM; intro w' g' HM))) | ((with_reducible apply own_alloc HM); exact rfl; (first | (with_reducible exact zeroF)); exact rfl; (first | (clear tg1 HM; intro w' g1 HM) | (clear tg2 HM; intro w' g2 HM) | (clear tg3 HM; intro w' g3 HM) | (clear tg4 HM; intro w' g4 HM) | (clear HM; intro w' g' HM))) | ((with_reducible apply own_cell HM); exact rfl; exact rfl; (first | (with_reducible exact oneBool)); exact sS; exact dS; exact rfl) | ((with_reducible apply own_load HM); exact rfl; exact rfl; (first | (with_reducible exact aggF)); exact sS; exact dS; exact tS; exact rfl) | ((with_reducible apply own_store HM); exact rfl; exact rfl; (conv => lhs; whnf); exact rfl; exact sS; exact vS; exact sS; (first | (with_reducible exact (aggF).size) | (with_reducible exact (oneBool).size)); exact rfl; exact rfl; exact rfl; exact rfl; clear HM; intro w' HM)
    | (go_at_call 177; (with_reducible refine (HO.out _).mono ?_); rintro e w' ⟨rfl, hb⟩; replace HM := Lib.hid (HM.out.call hb); clear hb))
  go_ret
  exact ⟨rfl, Own.fin HM⟩
set_option maxRecDepth 100000 in
set_option maxHeartbeats 800000 in
theorem rmet_M (f : Nat) (hf : f < 256) (w : World) : Calls Tryz.prog 115 #[.int .u8 (f : Int), .string ⟨#[77]⟩] w fun e w' => e = .returned (.bool (rgMet f 7)) ∧ Below w.heap.size w w' := by
  have HB : Hid (rgMet f 7 = (nBit 128 f)) := by show (nBit 128 f == true) = _; cases nBit 128 f <;> rfl
  rw [HB.out]
  obtain ⟨b128, h128⟩ : ∃ b, nBit 128 f = b := ⟨_, rfl⟩
  obtain ⟨b64, h64⟩ : ∃ b, nBit 64 f = b := ⟨_, rfl⟩
  obtain ⟨b4, h4⟩ : ∃ b, nBit 4 f = b := ⟨_, rfl⟩
  obtain ⟨b1, h1⟩ : ∃ b, nBit 1 f = b := ⟨_, rfl⟩
  have HO : Hid (∀ w, Calls Tryz.prog 177 #[.int .u8 (f : Int)] w fun e w' => e = .returned (.agg #[.bool b128, .bool b64, .bool (nBit 32 f), .bool (nBit 16 f), .bool (nBit 8 f), .bool b4, .bool (nBit 2 f), .bool b1]) ∧ Below w.heap.size w w') := by
    rw [← h128, ← h64, ← h4, ← h1]; exact of_at f hf
  rw [h128]
  clear HB h128 h64 h4 h1 hf
  have HM := Lib.hid (Own.start w)
  have tg1 : Hid True := trivial
  have tg2 : Hid True := trivial
  go_enter Tryz.func115, Tryz.ntmps115
  go_wp2_with (first
    | ((with_reducible apply own_box HM); exact rfl; (conv => lhs; whnf); exact rfl; exact rfl; (first | (clear tg1 HM; intro w' g1 HM) | (clear tg2 HM; intro w' g2 HM) | (clear tg3 HM; intro w' g3 HM) | (clear tg4 HM; intro w' g4 HM) | (clear HM; intro w' g' HM))) | ((with_reducible apply own_alloc HM); exact rfl; (first | (with_reducible exact zeroF)); exact rfl; (first | (clear tg1 HM; intro w' g1 HM) | (clear tg2 HM; intro w' g2 HM) | (clear tg3 HM; intro w' g3 HM) | (clear tg4 HM; intro w' g4 HM) | (clear HM; intro w' g' HM))) | ((with_reducible apply own_cell HM); exact rfl; exact rfl; (first | (with_reducible exact oneBool)); exact sS; exact dS; exact rfl) | ((with_reducible apply own_load HM); exact rfl; exact rfl; (first | (with_reducible exact aggF)); exact sS; exact dS; exact tS; exact rfl) | ((with_reducible apply own_store HM); exact rfl; exact rfl; (conv => lhs; whnf); exact rfl; exact sS; exact vS; exact sS; (first | (with_reducible exact (aggF).size) | (with_reducible exact (oneBool).size)); exact rfl; exact rfl; exact rfl; exact rfl; clear HM; intro w' HM)
    | (go_at_call 177; (with_reducible refine (HO.out _).mono ?_); rintro e w' ⟨rfl, hb⟩; replace HM := Lib.hid (HM.out.call hb); clear hb))
  go_ret
  exact ⟨rfl, Own.fin HM⟩
theorem rmet_at (f k : Nat) (hf : f < 256) (hk : k < 8) (b : Bool) (hb : Hid (rgMet f k = b)) (w : World) : Calls Tryz.prog 115 #[.int .u8 (f : Int), .string (rgCond k)] w fun e w' => e = .returned (.bool b) ∧ Below w.heap.size w w' := by
  rw [← hb.out]
  match k, hk with
  | 0, _ => exact rmet_NZ f hf w
  | 1, _ => exact rmet_Z f hf w
  | 2, _ => exact rmet_NC f hf w
  | 3, _ => exact rmet_C f hf w
  | 4, _ => exact rmet_PO f hf w
  | 5, _ => exact rmet_PE f hf w
  | 6, _ => exact rmet_P f hf w
  | 7, _ => exact rmet_M f hf w
end Go.Proofs.YtljjgakfnajifaaGreatDoor
