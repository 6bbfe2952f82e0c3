import Derived.Test.YtijjigacmmhloaaQ4
import Derived.RegionTactic
import Derived.BigRegion
import Derived.Laws.AppendOwn
namespace Go.Proofs.Ytijjigacmmhloaa
open Go.RowKit
theorem aggP : Agg Try.prog 51 512 := aggG
theorem zeroP : Zero Try.prog 51 (pcells 256 (fun _ => 0) (fun _ => false)) := zeroG
def lnM (n : Nat) (xs : Nat → Nat) (r0 r2 r8 r9 line x : Nat) : Nat := baN n xs r2 (baRow r0 r9 line x) (baCol r0 r8 line x)
def lnC (n : Nat) (xs : Nat → Nat) (r0 r2 r8 r9 line x : Nat) : Nat → Nat := stC n xs (lnM n xs r0 r2 r8 r9 line x) (baRow r0 r9 line x)
def lnF (n : Nat) (xs : Nat → Nat) (r0 r2 r8 r9 line x : Nat) : Nat → Bool := stF n xs (lnM n xs r0 r2 r8 r9 line x) (baRow r0 r9 line x)
theorem gColor_ln (n : Nat) (xs : Nat → Nat) (r0 r2 r8 r9 line x : Nat) : gColor n xs r0 r2 r8 r9 line x = lnC n xs r0 r2 r8 r9 line x (baCol r0 r8 line x % 8) := rfl
theorem gFront_ln (n : Nat) (xs : Nat → Nat) (r0 r2 r8 r9 line x : Nat) : gFront n xs r0 r2 r8 r9 line x = lnF n xs r0 r2 r8 r9 line x (baCol r0 r8 line x % 8) := rfl
theorem keep_row (r0 r9 line y : Nat) (h : ¬ y + 1 = 192) : baRow r0 r9 line y = baRow r0 r9 line (y + 1) := by
  unfold baRow
  by_cases k : r0 / 128 = 1
  · by_cases k2 : 192 ≤ y
    · rw [if_pos ⟨k, k2⟩, if_pos ⟨k, by omega⟩]
    · rw [if_neg (by omega), if_neg (by omega)]
  · rw [if_neg (by omega), if_neg (by omega)]
theorem keep_col (r0 r8 line y : Nat) (h8 : r8 < 256) (h : ¬ baCol r0 r8 line (y + 1) % 8 = 0) : baCol r0 r8 line y / 8 = baCol r0 r8 line (y + 1) / 8 := by
  revert h
  unfold baCol
  split
  · intro h; omega
  · intro h; omega
theorem keep_m (n : Nat) (xs : Nat → Nat) (r0 r2 r8 r9 line y : Nat) (h8 : r8 < 256) (h : ¬ y + 1 = 192) (hc : ¬ baCol r0 r8 line (y + 1) % 8 = 0) : lnM n xs r0 r2 r8 r9 line y = lnM n xs r0 r2 r8 r9 line (y + 1) := by
  unfold lnM baN baQ
  rw [keep_row r0 r9 line y h, keep_col r0 r8 line y h8 hc]
theorem keep_c (n : Nat) (xs : Nat → Nat) (r0 r2 r8 r9 line y : Nat) (h8 : r8 < 256) (h : ¬ y + 1 = 192) (hc : ¬ baCol r0 r8 line (y + 1) % 8 = 0) : lnC n xs r0 r2 r8 r9 line y = lnC n xs r0 r2 r8 r9 line (y + 1) := by
  unfold lnC
  rw [keep_m n xs r0 r2 r8 r9 line y h8 h hc, keep_row r0 r9 line y h]
theorem keep_f (n : Nat) (xs : Nat → Nat) (r0 r2 r8 r9 line y : Nat) (h8 : r8 < 256) (h : ¬ y + 1 = 192) (hc : ¬ baCol r0 r8 line (y + 1) % 8 = 0) : lnF n xs r0 r2 r8 r9 line y = lnF n xs r0 r2 r8 r9 line (y + 1) := by
  unfold lnF
  rw [keep_m n xs r0 r2 r8 r9 line y h8 h hc, keep_row r0 r9 line y h]
theorem ln_here (n : Nat) (xs : Nat → Nat) (r0 r2 r8 r9 line j : Nat) : ∀ y, j + 1 = y + 1 → lnC n xs r0 r2 r8 r9 line j = lnC n xs r0 r2 r8 r9 line y ∧ lnF n xs r0 r2 r8 r9 line j = lnF n xs r0 r2 r8 r9 line y := by
  intro y hy
  obtain rfl : j = y := by omega
  exact ⟨rfl, rfl⟩
theorem set2 (f : Nat → Nat) (g : Nat → Bool) (j k V : Nat) (B : Bool) (hk : k = 256 + j) (hj : j < 256) (hV : f j = V) (hB : g j = B) : ((pcells 256 (fun i => if i < j then f i else 0) (fun i => if i < j then g i else false)).set j (.int .u8 (V : Int))).set k (.bool B) = pcells 256 (fun i => if i < (j + 1) then f i else 0) (fun i => if i < (j + 1) then g i else false) := by
  subst hk
  rw [pcells_set _ _ j V hj, pcells_setB _ _ j B hj, step_c0 f f j V hV hV, step_f g j B hB]
set_option maxRecDepth 100000 in
set_option maxHeartbeats 6400000 in
theorem bline_in (a : Option Addr) (n cap : Nat) (xs : Nat → Nat) (r0 r1 r2 r3 r4 r5 r6 r7 r8 r9 r10 line : Nat) (h0 : r0 < 256) (h2 : r2 < 256) (h8 : r8 < 256) (h9 : r9 < 256) (hl : line < 192) (L : Int) (hL : Hid ((line : Int) = L)) (f : Nat → Nat) (g : Nat → Bool) (hf : Hid (gColor n xs r0 r2 r8 r9 line = f)) (hg : Hid (gFront n xs r0 r2 r8 r9 line = g)) (w : World) (hV : ByteRow w a n xs) :
    Calls Try.prog 20 #[.slice a n cap, regsV r0 r1 r2 r3 r4 r5 r6 r7 r8 r9 r10, .int .i64 L] w fun e w' => e = .returned (gV f g) ∧ Below w.heap.size w w' := by
  obtain rfl : L = (line : Int) := hL.out.symm
  have HM := Lib.hid (Own.start w)
  have tg1 : Hid True := trivial
  have tg2 : Hid True := trivial
  have tg3 : Hid True := trivial
  have tg4 : Hid True := trivial
  have HV := Lib.hid hV
  have l0 : (0 : Int) ≤ (line : Int) := by omega
  have l1 : (line : Int) < 192 := by omega
  have HS := Lib.hid (shown_in (line : Int) l0 l1)
  have H0 := Lib.hid h0
  have H2 := Lib.hid h2
  have H8 := Lib.hid h8
  have H9 := Lib.hid h9
  have HL := Lib.hid hl
  clear h0 h2 h8 h9 hl hL hV
  go_enter Try.func20, Try.ntmps20
  go_wp2_with (first | ((with_reducible apply own_box HM); exact rfl; (conv => lhs; whnf); exact rfl; exact rfl; (first | (clear tg1 HM; intro w' g1 HM) | (clear tg2 HM; intro w' g2 HM) | (clear tg3 HM; intro w' g3 HM) | (clear tg4 HM; intro w' g4 HM) | (clear HM; intro w' g' HM))) | ((with_reducible apply own_alloc HM); exact rfl; (first | (with_reducible exact zeroP) | (with_reducible exact zeroStrip)); exact rfl; (first | (clear tg1 HM; intro w' g1 HM) | (clear tg2 HM; intro w' g2 HM) | (clear tg3 HM; intro w' g3 HM) | (clear tg4 HM; intro w' g4 HM) | (clear HM; intro w' g' HM))) | ((with_reducible apply own_cell HM); exact rfl; exact rfl; (first | (with_reducible exact one8)); exact sS; exact dS; exact rfl) | ((with_reducible apply own_load HM); exact rfl; exact rfl; (first | (with_reducible exact agg11)); exact sS; exact dS; exact tS; exact rfl) | ((with_reducible apply own_store HM); exact rfl; exact rfl; (conv => lhs; whnf); exact rfl; exact sS; exact vS; exact sS; (first | (with_reducible exact (agg11).size) | (with_reducible exact (one8).size)); exact rfl; exact rfl; exact rfl; exact rfl; clear HM; intro w' HM) | (go_at_call 30; (with_reducible refine (HS.out _).mono ?_); rintro e w' ⟨rfl, rfl⟩))
  clear HS
  go_loopw [17] (fun i wr => ∃ (j : Nat) (J : Int) (S : Nat → Nat) (T : Nat → Bool), j ≤ 256 ∧ Hid (J = (j : Int)) ∧ i = .int .i64 J ∧ Hid (∀ y, j = y + 1 → S = lnC n xs r0 r2 r8 r9 line y ∧ T = lnF n xs r0 r2 r8 r9 line y) ∧ Hid (Own w wr [(g4, 73, pcells 8 S T), (g3, 51, pcells 256 (fun i => if i < j then f i else 0) (fun i => if i < j then g i else false)), (g2, 51, pcells 256 (fun _ => 0) (fun _ => false)), (g1, 27, [.int .u8 (r0 : Int), .int .u8 (r1 : Int), .int .u8 (r2 : Int), .int .u8 (r3 : Int), .int .u8 (r4 : Int), .int .u8 (r5 : Int), .int .u8 (r6 : Int), .int .u8 (r7 : Int), .int .u8 (r8 : Int), .int .u8 (r9 : Int), .int .u8 (r10 : Int)])])) (fun i _ => 256 - (intOf i).toNat)
  case atStart => exact ⟨0, 0, _, _, by omega, rfl, rfl, Lib.hid fun y hy => absurd hy (by omega), by simpa using HM⟩
  case round =>
    clear HM
    obtain ⟨j, J, S, T, hj, hJ, rfl, hST, HM⟩ := hrel
    have eJ := hJ.out
    by_cases hlt : j < 256
    · obtain ⟨c, hc⟩ : ∃ x : Nat, Hid (baCol r0 r8 line j = x) := ⟨_, rfl⟩
      obtain ⟨q, hq⟩ : ∃ x : Nat, Hid (baRow r0 r9 line j = x) := ⟨_, rfl⟩
      obtain ⟨i8, hi8⟩ : ∃ x : Nat, Hid (c % 8 = x) := ⟨_, rfl⟩
      have c1 : c < 256 := hc.out ▸ baCol_lt hlt
      have q1 : q < 224 := hq.out ▸ baRow_lt HL.out
      have hfj : Hid (f j = lnC n xs r0 r2 r8 r9 line j i8) := by show _ = _; rw [← hf.out, gColor_ln, hc.out, hi8.out]
      have hgj : Hid (g j = lnF n xs r0 r2 r8 r9 line j i8) := by show _ = _; rw [← hg.out, gFront_ln, hc.out, hi8.out]
      have i81 : i8 < 8 := by have := hi8.out; omega
      have ei : (c : Int).tmod 8 = (i8 : Int) := by rw [Int.tmod_eq_emod_of_nonneg (by omega)]; have := hi8.out; omega
      have HN := Lib.hid fun w' hV' => strip_at a n cap xs r0 r1 r2 r3 r4 r5 r6 r7 r8 r9 r10 c q (lnM n xs r0 r2 r8 r9 line j) H2.out c1 q1 (by show _ = _; unfold lnM; rw [hc.out, hq.out]) (lnC n xs r0 r2 r8 r9 line j) (lnF n xs r0 r2 r8 r9 line j) (by show _ = _; unfold lnC; rw [hq.out]) (by show _ = _; unfold lnF; rw [hq.out]) w' hV'
      have HQ1 := Lib.hid fun (X : Int) hX w' => source_in r0 r1 r2 r3 r4 r5 r6 r7 r8 r9 r10 line j H0.out H8.out H9.out HL.out hlt c q (line : Int) X (Lib.hid rfl) hX hc hq w'
      rcases (show j = 0 ∨ j = 192 ∨ (¬ j = 0 ∧ ¬ j = 192 ∧ i8 = 0) ∨ (¬ j = 0 ∧ ¬ j = 192 ∧ ¬ i8 = 0) by omega) with k | k | k | k
      · obtain rfl : J = 0 := by omega
        subst k
        clear eJ
        have hlt' : 0 < 256 := by omega
        have HQ2 := Lib.hid (HQ1.out 0 (by show _ = _; omega))
        go_upto_region 12 with (first | ((with_reducible apply own_box HM); exact rfl; (conv => lhs; whnf); exact rfl; exact rfl; (first | (clear tg1 HM; intro w' g1 HM) | (clear tg2 HM; intro w' g2 HM) | (clear tg3 HM; intro w' g3 HM) | (clear tg4 HM; intro w' g4 HM) | (clear HM; intro w' g' HM))) | ((with_reducible apply own_alloc HM); exact rfl; (first | (with_reducible exact zeroP) | (with_reducible exact zeroStrip)); exact rfl; (first | (clear tg1 HM; intro w' g1 HM) | (clear tg2 HM; intro w' g2 HM) | (clear tg3 HM; intro w' g3 HM) | (clear tg4 HM; intro w' g4 HM) | (clear HM; intro w' g' HM))) | ((with_reducible apply own_cell HM); exact rfl; exact rfl; (first | (with_reducible exact one8)); exact sS; exact dS; exact rfl) | ((with_reducible apply own_load HM); exact rfl; exact rfl; (first | (with_reducible exact agg11)); exact sS; exact dS; exact tS; exact rfl) | ((with_reducible apply own_store HM); exact rfl; exact rfl; (conv => lhs; whnf); exact rfl; exact sS; exact vS; exact sS; (first | (with_reducible exact (agg11).size) | (with_reducible exact (one8).size)); exact rfl; exact rfl; exact rfl; exact rfl; clear HM; intro w' HM) | (go_at_call 31; (with_reducible refine (HQ2.out _).mono ?_); rintro e w' ⟨rfl, hb⟩; replace HM := Lib.hid (HM.out.call hb); clear hb) | (go_at_call 32; (with_reducible refine (HN.out _ (HV.out.under (Own.fin HM))).mono ?_); rintro e w' ⟨rfl, hb⟩; replace HM := Lib.hid (HM.out.call hb); clear hb) | ((with_reducible apply own_lay HM); exact rfl; exact rfl; exact rfl; (first | with_reducible exact .z | with_reducible exact .s .z | with_reducible exact .s (.s .z) | with_reducible exact .s (.s (.s .z)) | with_reducible exact .s (.s (.s (.s .z)))); (first | with_reducible exact .z | with_reducible exact .s .z | with_reducible exact .s (.s .z) | with_reducible exact .s (.s (.s .z)) | with_reducible exact .s (.s (.s (.s .z)))); exact aggStrip.size; exact pcells_length _ _ _; exact pcells_length _ _ _; exact pcells_one _ _ _; exact rfl; exact rfl; clear HM; intro w' HM))
        have EV := Lib.hid (show pcells 8 (lnC n xs r0 r2 r8 r9 line 0) (lnF n xs r0 r2 r8 r9 line 0) = pcells 8 (lnC n xs r0 r2 r8 r9 line 0) (lnF n xs r0 r2 r8 r9 line 0) from rfl)
        clear HQ1 HQ2 HN
        have c0 := ((HM.out.at_ .z).at_ i8).trans (pcells_color _ _ i8 (by omega))
        have c1 := ((HM.out.at_ .z).at_ (8 + i8)).trans (pcells_front _ _ i8 (by omega))
        have c2 := ((HM.out.at_ (.s .z)).at_ 0).trans (pcells_color _ _ 0 (by omega))
        have c3 := ((HM.out.at_ (.s .z)).at_ 256).trans (pcells_front _ _ 0 (by omega))
        have f2 := (HM.out.at_ (.s .z)).free 0
        have f3 := (HM.out.at_ (.s .z)).free 256
        rw [← hfj.out] at c0
        rw [← hgj.out] at c1
        obtain ⟨V, hV⟩ : ∃ x : Nat, Hid (f 0 = x) := ⟨_, rfl⟩
        obtain ⟨B, hB⟩ : ∃ x : Bool, Hid (g 0 = x) := ⟨_, rfl⟩
        obtain ⟨V0, hV0⟩ : ∃ x : Value, (.int .u8 (((if 0 < 0 then f 0 else 0 : Nat)) : Int)) = x := ⟨_, rfl⟩
        obtain ⟨B0, hB0⟩ : ∃ x : Value, (.bool (if 0 < 0 then g 0 else false)) = x := ⟨_, rfl⟩
        rw [hV0] at c2
        rw [hB0] at c3
        clear hV0 hB0
        rw [hV.out] at c0
        rw [hB.out] at c1
        have i82 : (i8 : Int) < 8 := by omega
        have HM2 := Lib.hid ((HM.out.of_cell 0 (v := .int .u8 (V : Int)) (.s .z)).of_cell 256 (v := .bool B) (.s .z)).drew
        rw [set2 f g 0 256 V B (by omega) (by omega) hV.out hB.out] at HM2
        have d1 : ¬ g4 = g3 := (List.pairwise_cons.1 HM.out.apart).1 _ (List.mem_cons_self ..)
        have d2 : ¬ g3 = g4 := fun h => d1 h.symm
        clear HM
        go_region
        go_wp2_with fail
        go_roundw
        case rel => exact ⟨0 + 1, 1, _, _, by omega, (by show _ = _; omega), by go_num, Lib.hid (ln_here n xs r0 r2 r8 r9 line 0), HM2⟩
        case measure => decide
      · obtain rfl : J = 192 := by omega
        subst k
        clear eJ
        have hlt' : 192 < 256 := by omega
        have HQ2 := Lib.hid (HQ1.out 192 (by show _ = _; omega))
        go_upto_region 12 with (first | ((with_reducible apply own_box HM); exact rfl; (conv => lhs; whnf); exact rfl; exact rfl; (first | (clear tg1 HM; intro w' g1 HM) | (clear tg2 HM; intro w' g2 HM) | (clear tg3 HM; intro w' g3 HM) | (clear tg4 HM; intro w' g4 HM) | (clear HM; intro w' g' HM))) | ((with_reducible apply own_alloc HM); exact rfl; (first | (with_reducible exact zeroP) | (with_reducible exact zeroStrip)); exact rfl; (first | (clear tg1 HM; intro w' g1 HM) | (clear tg2 HM; intro w' g2 HM) | (clear tg3 HM; intro w' g3 HM) | (clear tg4 HM; intro w' g4 HM) | (clear HM; intro w' g' HM))) | ((with_reducible apply own_cell HM); exact rfl; exact rfl; (first | (with_reducible exact one8)); exact sS; exact dS; exact rfl) | ((with_reducible apply own_load HM); exact rfl; exact rfl; (first | (with_reducible exact agg11)); exact sS; exact dS; exact tS; exact rfl) | ((with_reducible apply own_store HM); exact rfl; exact rfl; (conv => lhs; whnf); exact rfl; exact sS; exact vS; exact sS; (first | (with_reducible exact (agg11).size) | (with_reducible exact (one8).size)); exact rfl; exact rfl; exact rfl; exact rfl; clear HM; intro w' HM) | (go_at_call 31; (with_reducible refine (HQ2.out _).mono ?_); rintro e w' ⟨rfl, hb⟩; replace HM := Lib.hid (HM.out.call hb); clear hb) | (go_at_call 32; (with_reducible refine (HN.out _ (HV.out.under (Own.fin HM))).mono ?_); rintro e w' ⟨rfl, hb⟩; replace HM := Lib.hid (HM.out.call hb); clear hb) | ((with_reducible apply own_lay HM); exact rfl; exact rfl; exact rfl; (first | with_reducible exact .z | with_reducible exact .s .z | with_reducible exact .s (.s .z) | with_reducible exact .s (.s (.s .z)) | with_reducible exact .s (.s (.s (.s .z)))); (first | with_reducible exact .z | with_reducible exact .s .z | with_reducible exact .s (.s .z) | with_reducible exact .s (.s (.s .z)) | with_reducible exact .s (.s (.s (.s .z)))); exact aggStrip.size; exact pcells_length _ _ _; exact pcells_length _ _ _; exact pcells_one _ _ _; exact rfl; exact rfl; clear HM; intro w' HM))
        have EV := Lib.hid (show pcells 8 (lnC n xs r0 r2 r8 r9 line 192) (lnF n xs r0 r2 r8 r9 line 192) = pcells 8 (lnC n xs r0 r2 r8 r9 line 192) (lnF n xs r0 r2 r8 r9 line 192) from rfl)
        clear HQ1 HQ2 HN
        have c0 := ((HM.out.at_ .z).at_ i8).trans (pcells_color _ _ i8 (by omega))
        have c1 := ((HM.out.at_ .z).at_ (8 + i8)).trans (pcells_front _ _ i8 (by omega))
        have c2 := ((HM.out.at_ (.s .z)).at_ 192).trans (pcells_color _ _ 192 (by omega))
        have c3 := ((HM.out.at_ (.s .z)).at_ 448).trans (pcells_front _ _ 192 (by omega))
        have f2 := (HM.out.at_ (.s .z)).free 192
        have f3 := (HM.out.at_ (.s .z)).free 448
        rw [← hfj.out] at c0
        rw [← hgj.out] at c1
        obtain ⟨V, hV⟩ : ∃ x : Nat, Hid (f 192 = x) := ⟨_, rfl⟩
        obtain ⟨B, hB⟩ : ∃ x : Bool, Hid (g 192 = x) := ⟨_, rfl⟩
        obtain ⟨V0, hV0⟩ : ∃ x : Value, (.int .u8 (((if 192 < 192 then f 192 else 0 : Nat)) : Int)) = x := ⟨_, rfl⟩
        obtain ⟨B0, hB0⟩ : ∃ x : Value, (.bool (if 192 < 192 then g 192 else false)) = x := ⟨_, rfl⟩
        rw [hV0] at c2
        rw [hB0] at c3
        clear hV0 hB0
        rw [hV.out] at c0
        rw [hB.out] at c1
        have i82 : (i8 : Int) < 8 := by omega
        have HM2 := Lib.hid ((HM.out.of_cell 192 (v := .int .u8 (V : Int)) (.s .z)).of_cell 448 (v := .bool B) (.s .z)).drew
        rw [set2 f g 192 448 V B (by omega) (by omega) hV.out hB.out] at HM2
        have d1 : ¬ g4 = g3 := (List.pairwise_cons.1 HM.out.apart).1 _ (List.mem_cons_self ..)
        have d2 : ¬ g3 = g4 := fun h => d1 h.symm
        clear HM
        go_region
        go_wp2_with fail
        go_roundw
        case rel => exact ⟨192 + 1, 193, _, _, by omega, (by show _ = _; omega), by go_num, Lib.hid (ln_here n xs r0 r2 r8 r9 line 192), HM2⟩
        case measure => decide
      · obtain ⟨k1, k2, k3⟩ := k
        subst k3 eJ
        have k4 : ((j : Int) == 0) = false := by simp; omega
        have k5 : ((j : Int) == 192) = false := by simp; omega
        have hlt' : (j : Int) < 256 := by omega
        have HQ2 := Lib.hid (HQ1.out (j : Int) (by show _ = _; omega))
        go_upto_region 12 with (first | ((with_reducible apply own_box HM); exact rfl; (conv => lhs; whnf); exact rfl; exact rfl; (first | (clear tg1 HM; intro w' g1 HM) | (clear tg2 HM; intro w' g2 HM) | (clear tg3 HM; intro w' g3 HM) | (clear tg4 HM; intro w' g4 HM) | (clear HM; intro w' g' HM))) | ((with_reducible apply own_alloc HM); exact rfl; (first | (with_reducible exact zeroP) | (with_reducible exact zeroStrip)); exact rfl; (first | (clear tg1 HM; intro w' g1 HM) | (clear tg2 HM; intro w' g2 HM) | (clear tg3 HM; intro w' g3 HM) | (clear tg4 HM; intro w' g4 HM) | (clear HM; intro w' g' HM))) | ((with_reducible apply own_cell HM); exact rfl; exact rfl; (first | (with_reducible exact one8)); exact sS; exact dS; exact rfl) | ((with_reducible apply own_load HM); exact rfl; exact rfl; (first | (with_reducible exact agg11)); exact sS; exact dS; exact tS; exact rfl) | ((with_reducible apply own_store HM); exact rfl; exact rfl; (conv => lhs; whnf); exact rfl; exact sS; exact vS; exact sS; (first | (with_reducible exact (agg11).size) | (with_reducible exact (one8).size)); exact rfl; exact rfl; exact rfl; exact rfl; clear HM; intro w' HM) | (go_at_call 31; (with_reducible refine (HQ2.out _).mono ?_); rintro e w' ⟨rfl, hb⟩; replace HM := Lib.hid (HM.out.call hb); clear hb) | (go_at_call 32; (with_reducible refine (HN.out _ (HV.out.under (Own.fin HM))).mono ?_); rintro e w' ⟨rfl, hb⟩; replace HM := Lib.hid (HM.out.call hb); clear hb) | ((with_reducible apply own_lay HM); exact rfl; exact rfl; exact rfl; (first | with_reducible exact .z | with_reducible exact .s .z | with_reducible exact .s (.s .z) | with_reducible exact .s (.s (.s .z)) | with_reducible exact .s (.s (.s (.s .z)))); (first | with_reducible exact .z | with_reducible exact .s .z | with_reducible exact .s (.s .z) | with_reducible exact .s (.s (.s .z)) | with_reducible exact .s (.s (.s (.s .z)))); exact aggStrip.size; exact pcells_length _ _ _; exact pcells_length _ _ _; exact pcells_one _ _ _; exact rfl; exact rfl; clear HM; intro w' HM))
        have EV := Lib.hid (show pcells 8 (lnC n xs r0 r2 r8 r9 line j) (lnF n xs r0 r2 r8 r9 line j) = pcells 8 (lnC n xs r0 r2 r8 r9 line j) (lnF n xs r0 r2 r8 r9 line j) from rfl)
        clear HQ1 HQ2 HN
        have c0 := ((HM.out.at_ .z).at_ 0).trans (pcells_color _ _ 0 (by omega))
        have c1 := ((HM.out.at_ .z).at_ 8).trans (pcells_front _ _ 0 (by omega))
        have c2 := ((HM.out.at_ (.s .z)).at_ j).trans (pcells_color _ _ j (by omega))
        have c3 := ((HM.out.at_ (.s .z)).at_ (256 + j)).trans (pcells_front _ _ j (by omega))
        have f2 := (HM.out.at_ (.s .z)).free j
        have f3 := (HM.out.at_ (.s .z)).free (256 + j)
        rw [← hfj.out] at c0
        rw [← hgj.out] at c1
        obtain ⟨V, hV⟩ : ∃ x : Nat, Hid (f j = x) := ⟨_, rfl⟩
        obtain ⟨B, hB⟩ : ∃ x : Bool, Hid (g j = x) := ⟨_, rfl⟩
        obtain ⟨V0, hV0⟩ : ∃ x : Value, (.int .u8 (((if j < j then f j else 0 : Nat)) : Int)) = x := ⟨_, rfl⟩
        obtain ⟨B0, hB0⟩ : ∃ x : Value, (.bool (if j < j then g j else false)) = x := ⟨_, rfl⟩
        rw [hV0] at c2
        rw [hB0] at c3
        clear hV0 hB0
        rw [hV.out] at c0
        rw [hB.out] at c1
        have i82 : (0 : Int) < 8 := by omega
        have HM2 := Lib.hid ((HM.out.of_cell j (v := .int .u8 (V : Int)) (.s .z)).of_cell (256 + j) (v := .bool B) (.s .z)).drew
        rw [set2 f g j (256 + j) V B (by omega) (by omega) hV.out hB.out] at HM2
        have d1 : ¬ g4 = g3 := (List.pairwise_cons.1 HM.out.apart).1 _ (List.mem_cons_self ..)
        have d2 : ¬ g3 = g4 := fun h => d1 h.symm
        clear HM
        go_region
        go_wp2_with fail
        go_roundw
        case rel => exact ⟨j + 1, ((j : Int) + 1), _, _, by omega, (by show _ = _; omega), by go_num, Lib.hid (ln_here n xs r0 r2 r8 r9 line j), HM2⟩
        case measure => simp [intOf]; omega
      · obtain ⟨k1, k2, k3⟩ := k
        subst eJ
        have k4 : ((j : Int) == 0) = false := by simp; omega
        have k5 : ((j : Int) == 192) = false := by simp; omega
        have k6 : ((i8 : Int) == 0) = false := by simp; omega
        have eS : S = lnC n xs r0 r2 r8 r9 line j ∧ T = lnF n xs r0 r2 r8 r9 line j := by
          obtain ⟨y, hy⟩ : ∃ y, j = y + 1 := ⟨j - 1, by omega⟩
          have kc : ¬ baCol r0 r8 line j % 8 = 0 := by rw [hc.out, hi8.out]; exact k3
          obtain ⟨e1, e2⟩ := hST.out y hy
          rw [hy] at kc k2 ⊢
          exact ⟨e1.trans (keep_c n xs r0 r2 r8 r9 line y H8.out k2 kc), e2.trans (keep_f n xs r0 r2 r8 r9 line y H8.out k2 kc)⟩
        obtain ⟨rfl, rfl⟩ := eS
        clear k1 k2 k3
        have hlt' : (j : Int) < 256 := by omega
        have HQ2 := Lib.hid (HQ1.out (j : Int) (by show _ = _; omega))
        go_upto_region 12 with (first | ((with_reducible apply own_box HM); exact rfl; (conv => lhs; whnf); exact rfl; exact rfl; (first | (clear tg1 HM; intro w' g1 HM) | (clear tg2 HM; intro w' g2 HM) | (clear tg3 HM; intro w' g3 HM) | (clear tg4 HM; intro w' g4 HM) | (clear HM; intro w' g' HM))) | ((with_reducible apply own_alloc HM); exact rfl; (first | (with_reducible exact zeroP) | (with_reducible exact zeroStrip)); exact rfl; (first | (clear tg1 HM; intro w' g1 HM) | (clear tg2 HM; intro w' g2 HM) | (clear tg3 HM; intro w' g3 HM) | (clear tg4 HM; intro w' g4 HM) | (clear HM; intro w' g' HM))) | ((with_reducible apply own_cell HM); exact rfl; exact rfl; (first | (with_reducible exact one8)); exact sS; exact dS; exact rfl) | ((with_reducible apply own_load HM); exact rfl; exact rfl; (first | (with_reducible exact agg11)); exact sS; exact dS; exact tS; exact rfl) | ((with_reducible apply own_store HM); exact rfl; exact rfl; (conv => lhs; whnf); exact rfl; exact sS; exact vS; exact sS; (first | (with_reducible exact (agg11).size) | (with_reducible exact (one8).size)); exact rfl; exact rfl; exact rfl; exact rfl; clear HM; intro w' HM) | (go_at_call 31; (with_reducible refine (HQ2.out _).mono ?_); rintro e w' ⟨rfl, hb⟩; replace HM := Lib.hid (HM.out.call hb); clear hb) | (go_at_call 32; (with_reducible refine (HN.out _ (HV.out.under (Own.fin HM))).mono ?_); rintro e w' ⟨rfl, hb⟩; replace HM := Lib.hid (HM.out.call hb); clear hb) | ((with_reducible apply own_lay HM); exact rfl; exact rfl; exact rfl; (first | with_reducible exact .z | with_reducible exact .s .z | with_reducible exact .s (.s .z) | with_reducible exact .s (.s (.s .z)) | with_reducible exact .s (.s (.s (.s .z)))); (first | with_reducible exact .z | with_reducible exact .s .z | with_reducible exact .s (.s .z) | with_reducible exact .s (.s (.s .z)) | with_reducible exact .s (.s (.s (.s .z)))); exact aggStrip.size; exact pcells_length _ _ _; exact pcells_length _ _ _; exact pcells_one _ _ _; exact rfl; exact rfl; clear HM; intro w' HM))
        have EV := Lib.hid (show pcells 8 (lnC n xs r0 r2 r8 r9 line j) (lnF n xs r0 r2 r8 r9 line j) = pcells 8 (lnC n xs r0 r2 r8 r9 line j) (lnF n xs r0 r2 r8 r9 line j) from rfl)
        clear HQ1 HQ2 HN
        have c0 := ((HM.out.at_ .z).at_ i8).trans (pcells_color _ _ i8 (by omega))
        have c1 := ((HM.out.at_ .z).at_ (8 + i8)).trans (pcells_front _ _ i8 (by omega))
        have c2 := ((HM.out.at_ (.s .z)).at_ j).trans (pcells_color _ _ j (by omega))
        have c3 := ((HM.out.at_ (.s .z)).at_ (256 + j)).trans (pcells_front _ _ j (by omega))
        have f2 := (HM.out.at_ (.s .z)).free j
        have f3 := (HM.out.at_ (.s .z)).free (256 + j)
        rw [← hfj.out] at c0
        rw [← hgj.out] at c1
        obtain ⟨V, hV⟩ : ∃ x : Nat, Hid (f j = x) := ⟨_, rfl⟩
        obtain ⟨B, hB⟩ : ∃ x : Bool, Hid (g j = x) := ⟨_, rfl⟩
        obtain ⟨V0, hV0⟩ : ∃ x : Value, (.int .u8 (((if j < j then f j else 0 : Nat)) : Int)) = x := ⟨_, rfl⟩
        obtain ⟨B0, hB0⟩ : ∃ x : Value, (.bool (if j < j then g j else false)) = x := ⟨_, rfl⟩
        rw [hV0] at c2
        rw [hB0] at c3
        clear hV0 hB0
        rw [hV.out] at c0
        rw [hB.out] at c1
        have i82 : (i8 : Int) < 8 := by omega
        have HM2 := Lib.hid ((HM.out.of_cell j (v := .int .u8 (V : Int)) (.s .z)).of_cell (256 + j) (v := .bool B) (.s .z)).drew
        rw [set2 f g j (256 + j) V B (by omega) (by omega) hV.out hB.out] at HM2
        have d1 : ¬ g4 = g3 := (List.pairwise_cons.1 HM.out.apart).1 _ (List.mem_cons_self ..)
        have d2 : ¬ g3 = g4 := fun h => d1 h.symm
        clear HM
        go_region
        go_wp2_with fail
        go_roundw
        case rel => exact ⟨j + 1, ((j : Int) + 1), _, _, by omega, (by show _ = _; omega), by go_num, Lib.hid (ln_here n xs r0 r2 r8 r9 line j), HM2⟩
        case measure => simp [intOf]; omega
    · obtain rfl : j = 256 := by omega
      obtain rfl : J = 256 := by omega
      clear eJ
      go_wp2_with (first | ((with_reducible apply own_row HM); exact rfl; exact rfl; exact aggP; (first | with_reducible exact .z | with_reducible exact .s .z | with_reducible exact .s (.s .z) | with_reducible exact .s (.s (.s .z)) | with_reducible exact .s (.s (.s (.s .z)))); exact rfl; exact pcells_length _ _ _) | ((with_reducible apply own_lay HM); exact rfl; exact rfl; exact rfl; (first | with_reducible exact .z | with_reducible exact .s .z | with_reducible exact .s (.s .z) | with_reducible exact .s (.s (.s .z)) | with_reducible exact .s (.s (.s (.s .z)))); (first | with_reducible exact .z | with_reducible exact .s .z | with_reducible exact .s (.s .z) | with_reducible exact .s (.s (.s .z)) | with_reducible exact .s (.s (.s (.s .z)))); exact aggP.size; exact pcells_length _ _ _; exact pcells_length _ _ _; exact pcells_one _ _ _; exact rfl; exact rfl; clear HM; intro w' HM))
      have ee : pcells 256 (fun i => if i < 256 then f i else 0) (fun i => if i < 256 then g i else false) = pcells 256 f g := pcells_ext (fun i hi => if_pos hi) (fun i hi => if_pos hi)
      rw [ee] at HM
      refine bodyPost_ret (v := .agg (pcells 256 f g).toArray) (own_results HM Try.results20 _ rfl (by (first | with_reducible exact .z | with_reducible exact .s .z | with_reducible exact .s (.s .z) | with_reducible exact .s (.s (.s .z)) | with_reducible exact .s (.s (.s (.s .z))))) (by rw [pcells_length]; exact aggP)) rfl ⟨rfl, Own.fin HM⟩
theorem sp_land2 : ∀ a, a < 256 → Nat.land a 2 = 2 * (a / 2 % 2) := by decide +kernel
theorem sp_land4 : ∀ a, a < 256 → Nat.land a 4 = 4 * (a / 4 % 2) := by decide +kernel
theorem sp_land8 : ∀ a, a < 256 → Nat.land a 8 = 8 * (a / 8 % 2) := by decide +kernel
theorem sp_land126 : ∀ a, a < 256 → Nat.land a 126 = a / 2 % 64 * 2 := by decide +kernel
theorem sp_and1 (r : Nat) (h : r < 256) : bits .and .u8 (r : Int) 1 = ((r % 2 : Nat) : Int) := (u8_and_nat r 1 h (by decide)).trans (by rw [Nat.and_one_is_mod])
theorem sp_and2 (r : Nat) (h : r < 256) : bits .and .u8 (r : Int) 2 = ((2 * (r / 2 % 2) : Nat) : Int) := (u8_and_nat r 2 h (by decide)).trans (congrArg _ (sp_land2 r h))
theorem sp_and4 (r : Nat) (h : r < 256) : bits .and .u8 (r : Int) 4 = ((4 * (r / 4 % 2) : Nat) : Int) := (u8_and_nat r 4 h (by decide)).trans (congrArg _ (sp_land4 r h))
theorem sp_and8 (r : Nat) (h : r < 256) : bits .and .u8 (r : Int) 8 = ((8 * (r / 8 % 2) : Nat) : Int) := (u8_and_nat r 8 h (by decide)).trans (congrArg _ (sp_land8 r h))
theorem sp_and126 (r : Nat) (h : r < 256) : bits .and .u8 (r : Int) 126 = ((r / 2 % 64 * 2 : Nat) : Int) := (u8_and_nat r 126 h (by decide)).trans (congrArg _ (sp_land126 r h))
theorem scale_at (r0 r1 r2 r3 r4 r5 r6 r7 r8 r9 r10 : Nat) (b1 : r1 < 256) (s : Nat) (hs : Hid (1 + r1 % 2 = s)) (w : World) :
    Calls Try.prog 37 #[regsV r0 r1 r2 r3 r4 r5 r6 r7 r8 r9 r10] w fun e w' => e = .returned (.int .i64 (s : Int)) ∧ Below w.heap.size w w' := by
  have HM := Lib.hid (Own.start w)
  have tg1 : Hid True := trivial
  have tg2 : Hid True := trivial
  have tg3 : Hid True := trivial
  have tg4 : Hid True := trivial
  have e1 := sp_and1 r1 b1
  have es := hs.out
  rcases (show r1 % 2 = 0 ∨ r1 % 2 = 1 by omega) with k | k
  all_goals
    rw [k] at e1 es
    subst es
    clear hs k
    go_enter Try.func37, Try.ntmps37
    go_wp2_with (first | ((with_reducible apply own_box HM); exact rfl; (conv => lhs; whnf); exact rfl; exact rfl; (first | (clear tg1 HM; intro w' g1 HM) | (clear tg2 HM; intro w' g2 HM) | (clear tg3 HM; intro w' g3 HM) | (clear tg4 HM; intro w' g4 HM) | (clear HM; intro w' g' HM))) | ((with_reducible apply own_cell HM); exact rfl; exact rfl; (first | (with_reducible exact one8) | (with_reducible exact oneInt)); exact sS; exact dS; exact rfl) | ((with_reducible apply own_load HM); exact rfl; exact rfl; (first | (with_reducible exact agg11)); exact sS; exact dS; exact tS; exact rfl) | ((with_reducible apply own_store HM); exact rfl; exact rfl; (conv => lhs; whnf); exact rfl; exact sS; exact vS; exact sS; (first | (with_reducible exact (agg11).size) | (with_reducible exact (one8).size) | (with_reducible exact (oneInt).size)); exact rfl; exact rfl; exact rfl; exact rfl; clear HM; intro w' HM))
    go_ret
    exact ⟨rfl, Own.fin HM⟩
theorem height_at (r0 r1 r2 r3 r4 r5 r6 r7 r8 r9 r10 : Nat) (b1 : r1 < 256) (h : Nat) (hh : Hid (spH r1 = h)) (w : World) :
    Calls Try.prog 48 #[regsV r0 r1 r2 r3 r4 r5 r6 r7 r8 r9 r10] w fun e w' => e = .returned (.int .i64 (h : Int)) ∧ Below w.heap.size w w' := by
  have HM := Lib.hid (Own.start w)
  have tg1 : Hid True := trivial
  have tg2 : Hid True := trivial
  have tg3 : Hid True := trivial
  have tg4 : Hid True := trivial
  have e2 := sp_and2 r1 b1
  have eh := hh.out
  unfold spH at eh
  have H1 := Lib.hid b1
  rcases (show r1 / 2 % 2 = 0 ∨ r1 / 2 % 2 = 1 by omega) with k | k <;> rcases (show r1 % 2 = 0 ∨ r1 % 2 = 1 by omega) with k1 | k1
  · have HS : Hid (1 + r1 % 2 = 1) := Lib.hid (by rw [k1])
    rw [k] at e2 eh
    rw [k1] at eh
    subst eh
    clear hh k k1 b1
    go_enter Try.func48, Try.ntmps48
    go_wp2_with (first | ((with_reducible apply own_box HM); exact rfl; (conv => lhs; whnf); exact rfl; exact rfl; (first | (clear tg1 HM; intro w' g1 HM) | (clear tg2 HM; intro w' g2 HM) | (clear tg3 HM; intro w' g3 HM) | (clear tg4 HM; intro w' g4 HM) | (clear HM; intro w' g' HM))) | ((with_reducible apply own_cell HM); exact rfl; exact rfl; (first | (with_reducible exact one8) | (with_reducible exact oneInt)); exact sS; exact dS; exact rfl) | ((with_reducible apply own_load HM); exact rfl; exact rfl; (first | (with_reducible exact agg11)); exact sS; exact dS; exact tS; exact rfl) | ((with_reducible apply own_store HM); exact rfl; exact rfl; (conv => lhs; whnf); exact rfl; exact sS; exact vS; exact sS; (first | (with_reducible exact (agg11).size) | (with_reducible exact (one8).size) | (with_reducible exact (oneInt).size)); exact rfl; exact rfl; exact rfl; exact rfl; clear HM; intro w' HM) | (go_at_call 37; (with_reducible refine (scale_at r0 r1 r2 r3 r4 r5 r6 r7 r8 r9 r10 H1.out 1 HS _).mono ?_); rintro e w' ⟨rfl, hb⟩; replace HM := Lib.hid (HM.out.call hb); clear hb))
    go_ret
    exact ⟨rfl, Own.fin HM⟩
  · have HS : Hid (1 + r1 % 2 = 2) := Lib.hid (by rw [k1])
    rw [k] at e2 eh
    rw [k1] at eh
    subst eh
    clear hh k k1 b1
    go_enter Try.func48, Try.ntmps48
    go_wp2_with (first | ((with_reducible apply own_box HM); exact rfl; (conv => lhs; whnf); exact rfl; exact rfl; (first | (clear tg1 HM; intro w' g1 HM) | (clear tg2 HM; intro w' g2 HM) | (clear tg3 HM; intro w' g3 HM) | (clear tg4 HM; intro w' g4 HM) | (clear HM; intro w' g' HM))) | ((with_reducible apply own_cell HM); exact rfl; exact rfl; (first | (with_reducible exact one8) | (with_reducible exact oneInt)); exact sS; exact dS; exact rfl) | ((with_reducible apply own_load HM); exact rfl; exact rfl; (first | (with_reducible exact agg11)); exact sS; exact dS; exact tS; exact rfl) | ((with_reducible apply own_store HM); exact rfl; exact rfl; (conv => lhs; whnf); exact rfl; exact sS; exact vS; exact sS; (first | (with_reducible exact (agg11).size) | (with_reducible exact (one8).size) | (with_reducible exact (oneInt).size)); exact rfl; exact rfl; exact rfl; exact rfl; clear HM; intro w' HM) | (go_at_call 37; (with_reducible refine (scale_at r0 r1 r2 r3 r4 r5 r6 r7 r8 r9 r10 H1.out 2 HS _).mono ?_); rintro e w' ⟨rfl, hb⟩; replace HM := Lib.hid (HM.out.call hb); clear hb))
    go_ret
    exact ⟨rfl, Own.fin HM⟩
  · have HS : Hid (1 + r1 % 2 = 1) := Lib.hid (by rw [k1])
    rw [k] at e2 eh
    rw [k1] at eh
    subst eh
    clear hh k k1 b1
    go_enter Try.func48, Try.ntmps48
    go_wp2_with (first | ((with_reducible apply own_box HM); exact rfl; (conv => lhs; whnf); exact rfl; exact rfl; (first | (clear tg1 HM; intro w' g1 HM) | (clear tg2 HM; intro w' g2 HM) | (clear tg3 HM; intro w' g3 HM) | (clear tg4 HM; intro w' g4 HM) | (clear HM; intro w' g' HM))) | ((with_reducible apply own_cell HM); exact rfl; exact rfl; (first | (with_reducible exact one8) | (with_reducible exact oneInt)); exact sS; exact dS; exact rfl) | ((with_reducible apply own_load HM); exact rfl; exact rfl; (first | (with_reducible exact agg11)); exact sS; exact dS; exact tS; exact rfl) | ((with_reducible apply own_store HM); exact rfl; exact rfl; (conv => lhs; whnf); exact rfl; exact sS; exact vS; exact sS; (first | (with_reducible exact (agg11).size) | (with_reducible exact (one8).size) | (with_reducible exact (oneInt).size)); exact rfl; exact rfl; exact rfl; exact rfl; clear HM; intro w' HM) | (go_at_call 37; (with_reducible refine (scale_at r0 r1 r2 r3 r4 r5 r6 r7 r8 r9 r10 H1.out 1 HS _).mono ?_); rintro e w' ⟨rfl, hb⟩; replace HM := Lib.hid (HM.out.call hb); clear hb))
    go_ret
    exact ⟨rfl, Own.fin HM⟩
  · have HS : Hid (1 + r1 % 2 = 2) := Lib.hid (by rw [k1])
    rw [k] at e2 eh
    rw [k1] at eh
    subst eh
    clear hh k k1 b1
    go_enter Try.func48, Try.ntmps48
    go_wp2_with (first | ((with_reducible apply own_box HM); exact rfl; (conv => lhs; whnf); exact rfl; exact rfl; (first | (clear tg1 HM; intro w' g1 HM) | (clear tg2 HM; intro w' g2 HM) | (clear tg3 HM; intro w' g3 HM) | (clear tg4 HM; intro w' g4 HM) | (clear HM; intro w' g' HM))) | ((with_reducible apply own_cell HM); exact rfl; exact rfl; (first | (with_reducible exact one8) | (with_reducible exact oneInt)); exact sS; exact dS; exact rfl) | ((with_reducible apply own_load HM); exact rfl; exact rfl; (first | (with_reducible exact agg11)); exact sS; exact dS; exact tS; exact rfl) | ((with_reducible apply own_store HM); exact rfl; exact rfl; (conv => lhs; whnf); exact rfl; exact sS; exact vS; exact sS; (first | (with_reducible exact (agg11).size) | (with_reducible exact (one8).size) | (with_reducible exact (oneInt).size)); exact rfl; exact rfl; exact rfl; exact rfl; clear HM; intro w' HM) | (go_at_call 37; (with_reducible refine (scale_at r0 r1 r2 r3 r4 r5 r6 r7 r8 r9 r10 H1.out 2 HS _).mono ?_); rintro e w' ⟨rfl, hb⟩; replace HM := Lib.hid (HM.out.call hb); clear hb))
    go_ret
    exact ⟨rfl, Own.fin HM⟩
theorem table_at (r0 r1 r2 r3 r4 r5 r6 r7 r8 r9 r10 : Nat) (b5 : r5 < 256) (b : Nat) (hb : Hid (spBase r5 = b)) (w : World) :
    Calls Try.prog 47 #[regsV r0 r1 r2 r3 r4 r5 r6 r7 r8 r9 r10] w fun e w' => e = .returned (.int .i64 (b : Int)) ∧ Below w.heap.size w w' := by
  have HM := Lib.hid (Own.start w)
  have tg1 : Hid True := trivial
  have tg2 : Hid True := trivial
  have tg3 : Hid True := trivial
  have tg4 : Hid True := trivial
  have e1 := sp_and126 r5 b5
  have eb := hb.out
  unfold spBase at eb
  obtain ⟨s, hs⟩ : ∃ s : Nat, r5 / 2 % 64 * 2 = s := ⟨_, rfl⟩
  have s1 : (s : Int) < 128 := by omega
  rw [hs] at e1 eb
  have E : 128 * (s : Int) = (b : Int) := by omega
  clear hs hb eb
  go_enter Try.func47, Try.ntmps47
  go_wp2_with (first | ((with_reducible apply own_box HM); exact rfl; (conv => lhs; whnf); exact rfl; exact rfl; (first | (clear tg1 HM; intro w' g1 HM) | (clear tg2 HM; intro w' g2 HM) | (clear tg3 HM; intro w' g3 HM) | (clear tg4 HM; intro w' g4 HM) | (clear HM; intro w' g' HM))) | ((with_reducible apply own_cell HM); exact rfl; exact rfl; (first | (with_reducible exact one8) | (with_reducible exact oneInt)); exact sS; exact dS; exact rfl) | ((with_reducible apply own_load HM); exact rfl; exact rfl; (first | (with_reducible exact agg11)); exact sS; exact dS; exact tS; exact rfl) | ((with_reducible apply own_store HM); exact rfl; exact rfl; (conv => lhs; whnf); exact rfl; exact sS; exact vS; exact sS; (first | (with_reducible exact (agg11).size) | (with_reducible exact (one8).size) | (with_reducible exact (oneInt).size)); exact rfl; exact rfl; exact rfl; exact rfl; clear HM; intro w' HM))
  go_ret
  exact ⟨rfl, Own.fin HM⟩
theorem first_at (y : Nat) (b : y < 256) (t : Int) (ht : Hid (spTop y = t)) (w : World) :
    Calls Try.prog 50 #[.int .u8 (y : Int)] w fun e w' => e = .returned (.int .i64 t) ∧ w = w' := by
  by_cases h : 240 < y + 1
  · obtain rfl : t = (y : Int) + 1 - 256 := by rw [← ht.out]; unfold spTop; rw [if_pos h]
    have h1 : (240 : Int) < (y : Int) + 1 := by omega
    have b' : (y : Int) < 256 := by omega
    clear ht h
    go_enter Try.func50, Try.ntmps50
    go_wp2
    go_ret
    exact ⟨rfl, rfl⟩
  · obtain rfl : t = (y : Int) + 1 := by rw [← ht.out]; unfold spTop; rw [if_neg h]
    have h1 : ¬ (240 : Int) < (y : Int) + 1 := by omega
    have b' : (y : Int) < 256 := by omega
    clear ht h
    go_enter Try.func50, Try.ntmps50
    go_wp2
    go_ret
    exact ⟨rfl, rfl⟩
theorem column_at (a : Option Addr) (n cap : Nat) (xs : Nat → Nat) (r0 r1 r2 r3 r4 r5 r6 r7 r8 r9 r10 i : Nat) (b0 : r0 < 256) (b5 : r5 < 256) (hi : i < 64) (X : Nat) (hX : Hid (mem n xs (spBase r5 + 128 + 2 * i) = X)) (x : Int) (hx : Hid ((X : Int) - 8 * ((r0 / 8 % 2 : Nat) : Int) = x)) (w : World) (hV : ByteRow w a n xs) :
    Calls Try.prog 35 #[.slice a n cap, regsV r0 r1 r2 r3 r4 r5 r6 r7 r8 r9 r10, .int .i64 (i : Int)] w fun e w' => e = .returned (.int .i64 x) ∧ Below w.heap.size w w' := by
  have HM := Lib.hid (Own.start w)
  have tg1 : Hid True := trivial
  have tg2 : Hid True := trivial
  have tg3 : Hid True := trivial
  have tg4 : Hid True := trivial
  have HV := Lib.hid hV
  have H5 := Lib.hid b5
  obtain ⟨b, hb⟩ : ∃ b, Hid (spBase r5 = b) := ⟨_, rfl⟩
  have hb1 : (b : Int) ≤ 16128 := by have := spBase_le r5; rw [hb.out] at this; omega
  have hi1 : (i : Int) < 64 := by omega
  have hk : Hid ((b : Int) + 128 + 2 * (i : Int) = ((b + 128 + 2 * i : Nat) : Int)) := Lib.hid (by omega)
  have hv : Hid (vget n xs (b + 128 + 2 * i) = X) := Lib.hid (by
    have := hX.out
    unfold mem at this
    rw [hb.out, Nat.mod_eq_of_lt (by omega)] at this
    exact this)
  have X8 : X < 256 := hv.out ▸ vget_lt hV _
  have X9 : (X : Int) < 256 := by omega
  have hm : Hid (((b : Int) + 128 + 2 * (i : Int)) % 16384 = ((b + 128 + 2 * i : Nat) : Int)) := Lib.hid (by omega)
  have e8 := sp_and8 r0 b0
  have ex := hx.out
  clear hV b5 hi X8 b0 hX hx
  rcases (show r0 / 8 % 2 = 0 ∨ r0 / 8 % 2 = 1 by omega) with k | k
  all_goals
    rw [k] at e8 ex
    obtain rfl := ex.symm
    clear k
    go_enter Try.func35, Try.ntmps35
    go_wp2_with (first | ((with_reducible apply own_box HM); exact rfl; (conv => lhs; whnf); exact rfl; exact rfl; (first | (clear tg1 HM; intro w' g1 HM) | (clear tg2 HM; intro w' g2 HM) | (clear tg3 HM; intro w' g3 HM) | (clear tg4 HM; intro w' g4 HM) | (clear HM; intro w' g' HM))) | ((with_reducible apply own_cell HM); exact rfl; exact rfl; (first | (with_reducible exact one8) | (with_reducible exact oneInt)); exact sS; exact dS; exact rfl) | ((with_reducible apply own_load HM); exact rfl; exact rfl; (first | (with_reducible exact agg11)); exact sS; exact dS; exact tS; exact rfl) | ((with_reducible apply own_store HM); exact rfl; exact rfl; (conv => lhs; whnf); exact rfl; exact sS; exact vS; exact sS; (first | (with_reducible exact (agg11).size) | (with_reducible exact (one8).size) | (with_reducible exact (oneInt).size)); exact rfl; exact rfl; exact rfl; exact rfl; clear HM; intro w' HM) | (go_at_call 47; (with_reducible refine (table_at r0 r1 r2 r3 r4 r5 r6 r7 r8 r9 r10 H5.out b hb _).mono ?_); rintro e w' ⟨rfl, hb⟩; replace HM := Lib.hid (HM.out.call hb); clear hb) | (go_at_call 49; (with_reducible refine (at_at a n cap xs _ (b + 128 + 2 * i) X hm hv _ (HV.out.under (Own.fin HM))).mono ?_); rintro e w' ⟨rfl, rfl⟩))
    go_ret
    exact ⟨by simp, Own.fin HM⟩
def RowN (sz : Nat) (t : TypeId) (R : List (Nat × TypeId × List Value)) (v : Value) (k : Nat) (xs : List Value) : Prop :=
  xs.length = k * sz ∧ ((R = [] ∧ v = .slice none 0 0 ∧ k = 0) ∨
  ∃ g cap cur, R = [(g, t, cur)] ∧ v = .slice (some ⟨g, 0, none⟩) k cap ∧ k ≤ cap ∧ cap ≤ maxLen ∧ cur.length = cap * sz ∧ cur.take (k * sz) = xs)
section
variable {W0 w w' : World} {l L R R' : List (Nat × TypeId × List Value)} {t : TypeId} {v v' : Value} {xs ys : List Value} {sz k : Nat}
theorem RowN.nil (sz : Nat) (t : TypeId) : RowN sz t [] (.slice none 0 0) 0 [] := ⟨by simp, .inl ⟨rfl, rfl, rfl⟩⟩
theorem RowN.fresh (sz : Nat) (t : TypeId) (g k : Nat) (cs : List Value) (h : cs.length = k * sz) (hk : k ≤ maxLen) : RowN sz t [(g, t, cs)] (.slice (some ⟨g, 0, none⟩) k k) k cs :=
  ⟨h, .inr ⟨g, k, cs, rfl, rfl, Nat.le_refl _, hk, h, by rw [← h]; exact List.take_length⟩⟩
theorem RowN.owns (h : RowN sz t R v k xs) {B : Nat} (hR : ∀ e ∈ R, B ≤ e.1 ∧ Whole w e.1 e.2.1 e.2.2) : w.ownsRow B t sz v k xs := by
  obtain ⟨hl, ⟨-, rfl, rfl⟩ | ⟨g, cap, cur, rfl, rfl, h1, h2, h3, h4⟩⟩ := h
  · exact ⟨hl, .inl ⟨rfl, rfl⟩⟩
  · obtain ⟨hb, hw⟩ := hR (g, t, cur) (by simp)
    exact ⟨hl, .inr ⟨g, cap, cur.toArray, rfl, hb, hw, h1, h2, by simp [h3], by simpa using h4⟩⟩
theorem rowN_of_owns {B : Nat} (h : w.ownsRow B t sz v k xs) : ∃ R, RowN sz t R v k xs ∧ ∀ e ∈ R, B ≤ e.1 ∧ Whole w e.1 e.2.1 e.2.2 := by
  obtain ⟨hl, ⟨rfl, rfl⟩ | ⟨g, cap, cur, rfl, hb, hw, h1, h2, h3, h4⟩⟩ := h
  · exact ⟨[], ⟨hl, .inl ⟨rfl, rfl, rfl⟩⟩, by simp⟩
  · refine ⟨[(g, t, cur.toList)], ⟨hl, .inr ⟨g, cap, cur.toList, rfl, rfl, h1, h2, by simpa using h3, by simpa using h4⟩⟩, ?_⟩
    intro e he
    obtain rfl := List.mem_singleton.1 he
    exact ⟨hb, hw⟩
theorem append_one {P : Program} {tS ty : TypeId} {i : TypeInfo} {z : Value} {bytes : Nat} (ht : P.underlying tS = some (.slice t)) (hi : P.info? t = some i) (hz : i.zero = some z)
    (hsize : i.size = sz) (hby : i.bytes = bytes) (hzs : z.cells.size = sz) (hsz : 0 < sz) (hbb : bytes ≤ 64)
    (HR : RowN sz t R v k xs) (hW : ∀ e ∈ R, Whole w e.1 e.2.1 e.2.2) (ad : Addr) (c : Nat) (news : List Value) (hl : news.length = sz) (hnews : ∀ j u, news[j]? = some u → w.cell? (ad.add j) = some u) (h1 : ∀ u ∈ news, u.oneCell' = true) (hk : k ≤ 100000) :
    ∃ v' w' R', (Builtin.append_ #[tS, tS] ty #[v, .slice (some ad) 1 c]).run P w = .ok v' w' ∧ RowN sz t R' v' (k + 1) (xs ++ news) ∧ (∀ e ∈ R', Whole w' e.1 e.2.1 e.2.2) ∧ w.grownBy w' v.ownBlock ∧
      ∀ e ∈ R', (∃ e0 ∈ R, e0.1 = e.1) ∨ w.heap.size ≤ e.1 := by
  have hb2 : (k + 1) * bytes ≤ 140737488355328 := by
    have : (k + 1) * bytes ≤ 100001 * 64 := Nat.mul_le_mul (by omega) hbb
    omega
  have h63 : k + 1 ≤ maxLen := by unfold maxLen; omega
  obtain ⟨hlx, ⟨rfl, rfl, rfl⟩ | ⟨g, cap, cur, rfl, rfl, hc1, hc2, hc3, hc4⟩⟩ := HR
  · obtain ⟨v', w', hr, ho, hg, -⟩ := run_append_own (P := P) w w.heap.size tS ty t i z sz bytes ht hi hz hsize hby hzs hsz _ 0 xs ⟨hlx, .inl ⟨rfl, rfl⟩⟩ ad 1 c news (by omega) hnews h1 h63 hb2 (Nat.le_refl _)
    obtain ⟨R', hR', hW'⟩ := rowN_of_owns ho
    exact ⟨v', w', R', hr, hR', fun e he => (hW' e he).2, hg, fun e he => .inr (hW' e he).1⟩
  · have hwg := hW (g, t, cur) (by simp)
    have hown : w.ownsRow 0 t sz (.slice (some ⟨g, 0, none⟩) k cap) k xs := RowN.owns ⟨hlx, .inr ⟨g, cap, cur, rfl, rfl, hc1, hc2, hc3, hc4⟩⟩ (fun e he => by
      obtain rfl := List.mem_singleton.1 he
      exact ⟨Nat.zero_le _, hwg⟩)
    by_cases hroom : k + 1 ≤ cap
    · obtain ⟨w', hr, ho, hg⟩ := run_append_fits (P := P) w 0 tS ty t i sz ht hi hsize g k cap xs hown ad 1 c news (by omega) hnews h1 hroom
      obtain ⟨R', hR', hW'⟩ := rowN_of_owns ho
      refine ⟨_, w', R', hr, hR', fun e he => (hW' e he).2, hg, fun e he => .inl ⟨(g, t, cur), by simp, ?_⟩⟩
      obtain ⟨-, ⟨-, hv, -⟩ | ⟨g', cap', cur', rfl, hv, -⟩⟩ := hR'
      · cases hv
      · obtain rfl := List.mem_singleton.1 he
        cases hv; rfl
    · have holds : ∀ j u, xs[j]? = some u → w.cell? ((⟨g, 0, none⟩ : Addr).add j) = some u := hown.cells (g := g) rfl
      have hr := run_append_grow (P := P) w tS ty t i z ht hi hz ⟨g, 0, none⟩ k cap xs (by rw [hlx, hsize]) holds ad 1 c news (by rw [hl, hsize]; omega) hnews (by omega) (by unfold maxLen at h63; omega) (by rw [hby]; exact growslice_fits (by omega) hb2)
      have hge := grownCap_ge w (k + 1) cap t
      have hcm : grownCap w (k + 1) cap t ≤ maxLen := grownCap_le_maxLen w (k + 1) cap t h63
      have hlen : (xs ++ news).length = (k + 1) * sz := by rw [List.length_append, hlx, hl, Nat.add_mul]; omega
      refine ⟨_, _, [(w.heap.size, t, (xs.toArray ++ news.toArray ++ Builtin.zeroCells z.cells (grownCap w (k + 1) cap t - (k + 1))).toList)], hr, ⟨hlen, .inr ⟨_, _, _, rfl, rfl, hge, hcm, ?_, ?_⟩⟩, ?_, ⟨rfl, rfl, rfl, by simp, fun k' hk' _ => heap_alloc_old w.drew _ hk'⟩, ?_⟩
      · simp only [Array.length_toList, Array.size_append, List.size_toArray, size_zeroCells, hzs, hlx, hl]
        have : grownCap w (k + 1) cap t = k + 1 + (grownCap w (k + 1) cap t - (k + 1)) := by omega
        rw [this, Nat.add_sub_cancel_left, Nat.add_mul, Nat.add_mul, Nat.one_mul]
      · simp only [Array.toList_append, List.append_assoc]
        rw [← List.append_assoc, ← hlen]
        exact List.take_left
      · intro e he
        obtain rfl := List.mem_singleton.1 he
        show _ = some (Obj.cells (Array.toList _).toArray t (0, 0))
        rw [Array.toArray_toList]
        exact heap_alloc_new w.drew _
      · intro e he
        obtain rfl := List.mem_singleton.1 he
        exact .inr (Nat.le_refl _)
theorem Own.perm (h : Own W0 w l) {l' : List (Nat × TypeId × List Value)} (hp : l.Perm l') : Own W0 w l' :=
  ⟨h.below, fun e he => h.whole e (hp.mem_iff.2 he), (List.Perm.pairwise_iff (fun h => Ne.symm h) hp).1 h.apart⟩
theorem Own.appended {E : List (Nat × TypeId × List Value)} (h : Own W0 w (E ++ (L ++ R))) (hR : RowN sz t R v k xs) (hg : w.grownBy w' v.ownBlock) {k' : Nat}
    (hR' : RowN sz t R' v' k' ys) (hW : ∀ e ∈ R', Whole w' e.1 e.2.1 e.2.2) (hn : ∀ e ∈ R', (∃ e0 ∈ R, e0.1 = e.1) ∨ w.heap.size ≤ e.1) : Own W0 w' (L ++ R') := by
  have hrow : ∀ g, v.ownBlock = some g → ∃ cur, (g, t, cur) ∈ R := by
    intro g hk
    obtain ⟨-, ⟨-, rfl, -⟩ | ⟨g, cap, cur, rfl, rfl, -⟩⟩ := hR
    · cases hk
    · cases hk; exact ⟨cur, by simp⟩
  have hlo : ∀ g, v.ownBlock = some g → W0.heap.size ≤ g := by
    intro g hk
    obtain ⟨cur, hm⟩ := hrow g hk
    exact (h.whole (g, t, cur) (by simp [hm])).1
  have hap := (List.pairwise_append.1 (List.pairwise_append.1 h.apart).2.1)
  have hLw : ∀ e ∈ L, W0.heap.size ≤ e.1 ∧ Whole w' e.1 e.2.1 e.2.2 := by
    intro e he
    have hx := h.whole e (by simp [he])
    refine ⟨hx.1, hx.2.grown hg ?_⟩
    intro hk
    obtain ⟨cur, hm⟩ := hrow e.1 hk.symm
    exact hap.2.2 e he (e.1, t, cur) hm rfl
  refine ⟨h.below.trans ((Below.refl _ w).grown hg h.below.size hlo), ?_, ?_⟩
  · intro e he
    rcases List.mem_append.1 he with he | he
    · exact hLw e he
    · refine ⟨?_, hW e he⟩
      rcases hn e he with ⟨e0, h0, h1⟩ | h1
      · rw [← h1]; exact (h.whole e0 (by simp [h0])).1
      · exact Nat.le_trans h.below.size h1
  · rw [List.pairwise_append]
    refine ⟨hap.1, ?_, ?_⟩
    · obtain ⟨-, ⟨rfl, -⟩ | ⟨g, cap, cur, rfl, -⟩⟩ := hR'
      · exact .nil
      · exact List.pairwise_singleton _ _
    · intro a ha b hb
      rcases hn b hb with ⟨e0, h0, h1⟩ | h1
      · rw [← h1]; exact hap.2.2 a ha e0 h0
      · have := (h.whole a (by simp [ha])).2.inside
        omega
end
theorem Own.rows {W0 w : World} {l R : List (Nat × TypeId × List Value)} (h : Own W0 w (l ++ R)) : ∀ e ∈ R, W0.heap.size ≤ e.1 ∧ Whole w e.1 e.2.1 e.2.2 := fun e he => h.whole e (by simp [he])
theorem own_appends {P : Program} {W0 w : World} {ops : Array Oper} {rest : List Oper} {o : Oper} {a : Act} {Q : Exit → Act → World → Prop} {L R : List (Nat × TypeId × List Value)} {g3 k sz : Nat} {c3 xs : List Value} {t3 t tS : TypeId} {v : Value} {s y : Operand} {i : TypeInfo} {z : Value} {bytes : Nat}
    (HM : Hid (Own W0 w ((g3, t3, c3) :: (L ++ R)))) (HR : Hid (RowN sz t R v k xs)) (ht : P.underlying tS = some (.slice t)) (hi : P.info? t = some i) (hz : i.zero = some z)
    (hsize : i.size = sz) (hby : i.bytes = bytes) (hzs : z.cells.size = sz) (hsz : 0 < sz) (hbb : bytes ≤ 64) (h3 : c3.length = sz) (h1 : c3.all (·.oneCell') = true) (hk : k ≤ 100000)
    (ho : o.op = .call { callee := .builtin .append, args := #[s, y], argTypes := #[tS, tS] }) (hs : a.eval s = v) (hy : a.eval y = .slice (some ⟨g3, 0, none⟩) 1 1) (hw : Region.wanted o (yielded ops a.tmps) = true)
    (h : ∀ v' w' R', Hid (RowN sz t R' v' (k + 1) (xs ++ c3)) → Hid (Own W0 w' (L ++ R')) → wpList P ops Q rest (a.put o.dst v') w') : wpList P ops Q (o :: rest) a w := by
  refine wpList_wanted hw fun K hK => ?_
  have hO : Own W0 w ([(g3, t3, c3)] ++ (L ++ R)) := HM.out
  have hw3 := HM.out.at_ .z
  obtain ⟨v', w', R', hr, hR', hW', hg, hn⟩ := append_one (ty := o.type) (w := w) ht hi hz hsize hby hzs hsz hbb HR.out (fun e he => (HM.out.whole e (by simp [he])).2) ⟨g3, 0, none⟩ 1 c3 h3 (fun j u hj => by
    have ha : (⟨g3, 0, none⟩ : Addr).add j = ⟨g3, j, none⟩ := by unfold Addr.add; split <;> simp_all
    rw [ha, hw3.at_ j]; exact hj) (List.all_eq_true.1 h1) hk
  have hk' := hK _ _ (h v' w' R' (Lib.hid hR') (Lib.hid (Own.appended hO HR.out hg hR' hW' hn)))
  unfold Oper.wp
  simp only [execOp, ho, resolve, invoke, builtin, hs, hy, hr, Result.andThen, Sem.run_bind, Sem.run_pure, List.map_toArray, List.map_cons, List.map_nil]
  exact hk'
theorem own_made {P : Program} {W0 w : World} {l : List (Nat × TypeId × List Value)} {ops : Array Oper} {rest : List Oper} {o : Oper} {a : Act} {Q : Exit → Act → World → Prop} {e : TypeId} {n : Nat} {cs : List Value} (HM : Hid (Own W0 w l))
    {t : TypeId} {parts : Array (Nat × Operand)} (ho : o.op = .buildSlice t n parts) {parts' : Array (Nat × Value)} (hx : ∀ w, (Instr.buildSlice t n parts').run P w = .ok (.slice (some ⟨w.heap.size, 0, none⟩) n n) (w.alloc (.cells cs.toArray e))) (hp : (parts.map fun (i, x) => (i, a.eval x)) = parts') (hw : Region.wanted o (yielded ops a.tmps) = true)
    (h : ∀ w' g, Hid (Own W0 w' ((g, e, cs) :: l)) → wpList P ops Q rest (a.put o.dst (.slice (some ⟨g, 0, none⟩) n n)) w') : wpList P ops Q (o :: rest) a w := by
  refine wpList_wanted hw fun K hK => ?_
  unfold Oper.wp execOp
  simp only [ho, Sem.run_bind, hp]
  rw [hx]
  exact hK _ _ (h _ _ (HM.out.new e cs))
def nts (l : List Nat) : List Value := l.map fun x : Nat => .int .i64 (x : Int)
theorem nts_length (l : List Nat) : (nts l).length = l.length := by simp [nts]
theorem nts_get (l : List Nat) (i : Nat) (x : Nat) (h : l[i]? = some x) : (nts l)[i]? = some (.int .i64 (x : Int)) := by simp [nts, h]
theorem nts_snoc (l : List Nat) (x : Nat) : nts (l ++ [x]) = nts l ++ [.int .i64 (x : Int)] := by simp [nts]
theorem made_i0 (w : World) : (Instr.buildSlice 60 0 #[]).run Try.prog w = .ok (.slice (some ⟨w.heap.size, 0, none⟩) 0 0) (w.alloc (.cells ([] : List Value).toArray 3)) := by kernel_rfl
theorem made_i1 (x : Int) (w : World) : (Instr.buildSlice 60 1 #[(0, .int .i64 x)]).run Try.prog w = .ok (.slice (some ⟨w.heap.size, 0, none⟩) 1 1) (w.alloc (.cells ([.int .i64 x] : List Value).toArray 3)) := by kernel_rfl
theorem int_parts : ∃ i : TypeInfo, Try.prog.info? 3 = some i ∧ i.zero = some (.int .i64 0) ∧ i.size = 1 ∧ i.bytes = 8 := by
  obtain ⟨i, hi⟩ := Option.isSome_iff_exists.1 (show (Try.prog.info? 3).isSome = true by kernel_rfl)
  have h : (Try.prog.info? 3).map (fun i => (i.zero, i.size, i.bytes)) = some (some (.int .i64 0), 1, 8) := by kernel_rfl
  rw [hi] at h
  simp only [Option.map_some, Option.some.injEq, Prod.mk.injEq] at h
  exact ⟨i, hi, h.1, h.2.1, h.2.2⟩
theorem spFrom_end {Y : Nat → Nat} {h : Nat} {line : Int} {k i y : Nat} (hy : Y i = y) (h0 : y = 208) : spFrom Y h line k i = [] := by
  cases k with
  | zero => rfl
  | succ k => unfold spFrom; rw [if_pos (hy.trans h0)]
theorem spFrom_on {Y : Nat → Nat} {h : Nat} {line : Int} {k i y : Nat} (hy : Y i = y) (h0 : ¬ y = 208) (t : Int) (ht : spTop y = t) (h1 : t ≤ line) (h2 : line < t + h) : spFrom Y h line (k + 1) i = i :: spFrom Y h line k (i + 1) := by
  show (if Y i = 208 then [] else if spIs h line (Y i) = true then i :: spFrom Y h line k (i + 1) else spFrom Y h line k (i + 1)) = _
  rw [if_neg (fun e => h0 (hy.symm.trans e)), if_pos]
  unfold spIs
  rw [hy, ht]
  simp [h1, h2]
theorem spFrom_off {Y : Nat → Nat} {h : Nat} {line : Int} {k i y : Nat} (hy : Y i = y) (h0 : ¬ y = 208) (t : Int) (ht : spTop y = t) (h1 : ¬ (t ≤ line ∧ line < t + h)) : spFrom Y h line (k + 1) i = spFrom Y h line k (i + 1) := by
  show (if Y i = 208 then [] else if spIs h line (Y i) = true then i :: spFrom Y h line k (i + 1) else spFrom Y h line k (i + 1)) = _
  rw [if_neg (fun e => h0 (hy.symm.trans e)), if_neg]
  unfold spIs
  rw [hy, ht]
  intro hc
  simp at hc
  exact h1 hc
end Go.Proofs.Ytijjigacmmhloaa
