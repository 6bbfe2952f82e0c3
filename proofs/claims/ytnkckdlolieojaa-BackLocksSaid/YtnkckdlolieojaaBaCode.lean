/-
  The landed code's Line.
-/
import Derived.Test.YtnkckdlolieojaaBaCodeA
import Derived.Test.YtnkckdlolieojaaBaStrip
import Derived.Test.YtnkckdlolieojaaBaGround
import Derived.Deep.Cut
import Derived.Deep.CutRange
import Derived.RegionTactic
import Derived.BigRegion
namespace Go.Proofs.Ytnkckdlolieojaa
open Go.RowKit

theorem aggP : Agg Try.prog 29 512 := aggG
theorem zeroP : Zero Try.prog 29 (pcells 256 (fun _ => 0) (fun _ => false)) := zeroG
def lnM (n : Nat) (xs : Nat → Nat) (r0 r2 r8 r9 line x : Nat) : Nat := baN n xs r2 (baRow r0 r9 line x) (baCol r0 r8 line x)
def lnC (n : Nat) (xs : Nat → Nat) (r0 r2 r8 r9 line x : Nat) : Nat → Nat := stC n xs (lnM n xs r0 r2 r8 r9 line x) (baRow r0 r9 line x)
def lnF (n : Nat) (xs : Nat → Nat) (r0 r2 r8 r9 line x : Nat) : Nat → Bool := stF n xs (lnM n xs r0 r2 r8 r9 line x) (baRow r0 r9 line x)
theorem gColor_ln (n : Nat) (xs : Nat → Nat) (r0 r2 r8 r9 line x : Nat) : gColor n xs r0 r2 r8 r9 line x = lnC n xs r0 r2 r8 r9 line x (baCol r0 r8 line x % 8) := rfl
theorem gFront_ln (n : Nat) (xs : Nat → Nat) (r0 r2 r8 r9 line x : Nat) : gFront n xs r0 r2 r8 r9 line x = lnF n xs r0 r2 r8 r9 line x (baCol r0 r8 line x % 8) := rfl
theorem keep_row (r0 r9 line y : Nat) (h : ¬ y + 1 = 192) : baRow r0 r9 line y = baRow r0 r9 line (y + 1) := by
  unfold baRow
  by_cases k : r0 / 128 = 1
  · by_cases k2 : 192 ≤ y
    · rw [if_pos ⟨k, k2⟩, if_pos ⟨k, by omega⟩]
    · rw [if_neg (by omega), if_neg (by omega)]
  · rw [if_neg (by omega), if_neg (by omega)]
theorem keep_col (r0 r8 line y : Nat) (h8 : r8 < 256) (h : ¬ baCol r0 r8 line (y + 1) % 8 = 0) : baCol r0 r8 line y / 8 = baCol r0 r8 line (y + 1) / 8 := by
  revert h
  unfold baCol
  split
  · intro h; omega
  · intro h; omega
theorem keep_m (n : Nat) (xs : Nat → Nat) (r0 r2 r8 r9 line y : Nat) (h8 : r8 < 256) (h : ¬ y + 1 = 192) (hc : ¬ baCol r0 r8 line (y + 1) % 8 = 0) : lnM n xs r0 r2 r8 r9 line y = lnM n xs r0 r2 r8 r9 line (y + 1) := by
  unfold lnM baN baQ
  rw [keep_row r0 r9 line y h, keep_col r0 r8 line y h8 hc]
theorem keep_c (n : Nat) (xs : Nat → Nat) (r0 r2 r8 r9 line y : Nat) (h8 : r8 < 256) (h : ¬ y + 1 = 192) (hc : ¬ baCol r0 r8 line (y + 1) % 8 = 0) : lnC n xs r0 r2 r8 r9 line y = lnC n xs r0 r2 r8 r9 line (y + 1) := by
  unfold lnC
  rw [keep_m n xs r0 r2 r8 r9 line y h8 h hc, keep_row r0 r9 line y h]
theorem keep_f (n : Nat) (xs : Nat → Nat) (r0 r2 r8 r9 line y : Nat) (h8 : r8 < 256) (h : ¬ y + 1 = 192) (hc : ¬ baCol r0 r8 line (y + 1) % 8 = 0) : lnF n xs r0 r2 r8 r9 line y = lnF n xs r0 r2 r8 r9 line (y + 1) := by
  unfold lnF
  rw [keep_m n xs r0 r2 r8 r9 line y h8 h hc, keep_row r0 r9 line y h]

theorem ln_here (n : Nat) (xs : Nat → Nat) (r0 r2 r8 r9 line j : Nat) : ∀ y, j + 1 = y + 1 → lnC n xs r0 r2 r8 r9 line j = lnC n xs r0 r2 r8 r9 line y ∧ lnF n xs r0 r2 r8 r9 line j = lnF n xs r0 r2 r8 r9 line y := by
  intro y hy
  obtain rfl : j = y := by omega
  exact ⟨rfl, rfl⟩
theorem set2 (f : Nat → Nat) (g : Nat → Bool) (j k V : Nat) (B : Bool) (hk : k = 256 + j) (hj : j < 256) (hV : f j = V) (hB : g j = B) : ((pcells 256 (fun i => if i < j then f i else 0) (fun i => if i < j then g i else false)).set j (.int .u8 (V : Int))).set k (.bool B) = pcells 256 (fun i => if i < (j + 1) then f i else 0) (fun i => if i < (j + 1) then g i else false) := by
  subst hk
  rw [pcells_set _ _ j V hj, pcells_setB _ _ j B hj, step_c0 f f j V hV hV, step_f g j B hB]

set_option maxRecDepth 100000 in
set_option maxHeartbeats 6400000 in
theorem line_in (a : Option Addr) (n cap : Nat) (xs : Nat → Nat) (r0 r1 r2 r3 r4 r5 r6 r7 r8 r9 r10 line : Nat) (h0 : r0 < 256) (h2 : r2 < 256) (h8 : r8 < 256) (h9 : r9 < 256) (hl : line < 192) (L : Int) (hL : Hid ((line : Int) = L)) (f : Nat → Nat) (g : Nat → Bool) (hf : Hid (gColor n xs r0 r2 r8 r9 line = f)) (hg : Hid (gFront n xs r0 r2 r8 r9 line = g)) (w : World) (hV : ByteRow w a n xs) :
    Calls Try.prog 10 #[.slice a n cap, regsV r0 r1 r2 r3 r4 r5 r6 r7 r8 r9 r10, .int .i64 L] w fun e w' => e = .returned (gV f g) ∧ Below w.heap.size w w' := by
  obtain rfl : L = (line : Int) := hL.out.symm
  have HM := Lib.hid (Own.start w)
  have tg1 : Hid True := trivial
  have tg2 : Hid True := trivial
  have tg3 : Hid True := trivial
  have tg4 : Hid True := trivial
  have HV := Lib.hid hV
  have l0 : (0 : Int) ≤ (line : Int) := by omega
  have l1 : (line : Int) < 192 := by omega
  have HS := Lib.hid (shown_in (line : Int) l0 l1)
  have H0 := Lib.hid h0
  have H2 := Lib.hid h2
  have H8 := Lib.hid h8
  have H9 := Lib.hid h9
  have HL := Lib.hid hl
  clear h0 h2 h8 h9 hl hL hV
  go_enter Try.func10, Try.ntmps10
  go_wp2_with (first | ((with_reducible apply own_box HM); exact rfl; (conv => lhs; whnf); exact rfl; exact rfl; (first | (clear tg1; intro w' g1 HM') | (clear tg2; intro w' g2 HM') | (clear tg3; intro w' g3 HM') | (clear tg4; intro w' g4 HM') | intro w' g' HM'); clear HM; have HM := HM'; clear HM'; all_goals skip) | ((with_reducible apply own_alloc HM); exact rfl; (first | (with_reducible exact zeroP) | (with_reducible exact zeroStrip)); exact rfl; (first | (clear tg1; intro w' g1 HM') | (clear tg2; intro w' g2 HM') | (clear tg3; intro w' g3 HM') | (clear tg4; intro w' g4 HM') | intro w' g' HM'); clear HM; have HM := HM'; clear HM'; all_goals skip) | ((with_reducible apply own_cell HM); exact rfl; exact rfl; (first | (with_reducible exact one8)); (first | with_reducible exact .z | with_reducible exact .s .z | with_reducible exact .s (.s .z) | with_reducible exact .s (.s (.s .z)) | with_reducible exact .s (.s (.s (.s .z))) | with_reducible exact .s (.s (.s (.s (.s .z))))); (focus repeat' (first | with_reducible exact .z | with_reducible apply Drop.s)); exact rfl; all_goals skip) | ((with_reducible apply own_load HM); exact rfl; exact rfl; (first | (with_reducible exact agg11)); (first | with_reducible exact .z | with_reducible exact .s .z | with_reducible exact .s (.s .z) | with_reducible exact .s (.s (.s .z)) | with_reducible exact .s (.s (.s (.s .z))) | with_reducible exact .s (.s (.s (.s (.s .z))))); (focus repeat' (first | with_reducible exact .z | with_reducible apply Drop.s)); (focus repeat' (first | with_reducible exact .z | with_reducible apply Take.s)); exact rfl; all_goals skip) | ((with_reducible apply own_store HM); exact rfl; exact rfl; (conv => lhs; whnf); exact rfl; (first | with_reducible exact .z | with_reducible exact .s .z | with_reducible exact .s (.s .z) | with_reducible exact .s (.s (.s .z)) | with_reducible exact .s (.s (.s (.s .z))) | with_reducible exact .s (.s (.s (.s (.s .z))))); (focus repeat' (first | with_reducible exact .z | with_reducible apply Over.p | with_reducible apply Over.s)); (first | with_reducible exact .z | with_reducible exact .s .z | with_reducible exact .s (.s .z) | with_reducible exact .s (.s (.s .z)) | with_reducible exact .s (.s (.s (.s .z))) | with_reducible exact .s (.s (.s (.s (.s .z))))); (first | (with_reducible exact (agg11).size) | (with_reducible exact (one8).size)); exact rfl; exact rfl; exact rfl; exact rfl; intro w' HM'; clear HM; have HM := HM'; clear HM'; all_goals skip) | (go_at_call 14; (with_reducible refine (HS.out _).mono ?_); rintro e w' ⟨rfl, rfl⟩))
  clear HS
  go_loopw [17] (fun i wr => ∃ (j : Nat) (J : Int) (S : Nat → Nat) (T : Nat → Bool), j ≤ 256 ∧ Hid (J = (j : Int)) ∧ i = .int .i64 J ∧ Hid (∀ y, j = y + 1 → S = lnC n xs r0 r2 r8 r9 line y ∧ T = lnF n xs r0 r2 r8 r9 line y) ∧ Hid (Own w wr [(g4, 46, pcells 8 S T), (g3, 29, pcells 256 (fun i => if i < j then f i else 0) (fun i => if i < j then g i else false)), (g2, 29, pcells 256 (fun _ => 0) (fun _ => false)), (g1, 24, [.int .u8 (r0 : Int), .int .u8 (r1 : Int), .int .u8 (r2 : Int), .int .u8 (r3 : Int), .int .u8 (r4 : Int), .int .u8 (r5 : Int), .int .u8 (r6 : Int), .int .u8 (r7 : Int), .int .u8 (r8 : Int), .int .u8 (r9 : Int), .int .u8 (r10 : Int)])])) (fun i _ => 256 - (intOf i).toNat)
  case atStart => exact ⟨0, 0, _, _, by omega, rfl, rfl, Lib.hid fun y hy => absurd hy (by omega), by simpa using HM⟩
  case round =>
    clear HM
    obtain ⟨j, J, S, T, hj, hJ, rfl, hST, HM⟩ := hrel
    have eJ := hJ.out
    by_cases hlt : j < 256
    · obtain ⟨c, hc⟩ : ∃ x : Nat, Hid (baCol r0 r8 line j = x) := ⟨_, rfl⟩
      obtain ⟨q, hq⟩ : ∃ x : Nat, Hid (baRow r0 r9 line j = x) := ⟨_, rfl⟩
      obtain ⟨i8, hi8⟩ : ∃ x : Nat, Hid (c % 8 = x) := ⟨_, rfl⟩
      have c1 : c < 256 := hc.out ▸ baCol_lt hlt
      have q1 : q < 224 := hq.out ▸ baRow_lt HL.out
      have hfj : Hid (f j = lnC n xs r0 r2 r8 r9 line j i8) := by show _ = _; rw [← hf.out, gColor_ln, hc.out, hi8.out]
      have hgj : Hid (g j = lnF n xs r0 r2 r8 r9 line j i8) := by show _ = _; rw [← hg.out, gFront_ln, hc.out, hi8.out]
      have i81 : i8 < 8 := by have := hi8.out; omega
      have ei : (c : Int).tmod 8 = (i8 : Int) := by rw [Int.tmod_eq_emod_of_nonneg (by omega)]; have := hi8.out; omega
      have HN := Lib.hid fun w' hV' => strip_at a n cap xs r0 r1 r2 r3 r4 r5 r6 r7 r8 r9 r10 c q (lnM n xs r0 r2 r8 r9 line j) H2.out c1 q1 (by show _ = _; unfold lnM; rw [hc.out, hq.out]) (lnC n xs r0 r2 r8 r9 line j) (lnF n xs r0 r2 r8 r9 line j) (by show _ = _; unfold lnC; rw [hq.out]) (by show _ = _; unfold lnF; rw [hq.out]) w' hV'
      have HQ1 := Lib.hid fun (X : Int) hX w' => source_in r0 r1 r2 r3 r4 r5 r6 r7 r8 r9 r10 line j H0.out H8.out H9.out HL.out hlt c q (line : Int) X (Lib.hid rfl) hX hc hq w'
      rcases (show j = 0 ∨ j = 192 ∨ (¬ j = 0 ∧ ¬ j = 192 ∧ i8 = 0) ∨ (¬ j = 0 ∧ ¬ j = 192 ∧ ¬ i8 = 0) by omega) with k | k | k | k
      · obtain rfl : J = 0 := by omega
        subst k
        clear eJ
        have hlt' : 0 < 256 := by omega
        have HQ2 := Lib.hid (HQ1.out 0 (by show _ = _; omega))
        go_upto_region 12 with (first | ((with_reducible apply own_box HM); exact rfl; (conv => lhs; whnf); exact rfl; exact rfl; (first | (clear tg1; intro w' g1 HM') | (clear tg2; intro w' g2 HM') | (clear tg3; intro w' g3 HM') | (clear tg4; intro w' g4 HM') | intro w' g' HM'); clear HM; have HM := HM'; clear HM'; all_goals skip) | ((with_reducible apply own_alloc HM); exact rfl; (first | (with_reducible exact zeroP) | (with_reducible exact zeroStrip)); exact rfl; (first | (clear tg1; intro w' g1 HM') | (clear tg2; intro w' g2 HM') | (clear tg3; intro w' g3 HM') | (clear tg4; intro w' g4 HM') | intro w' g' HM'); clear HM; have HM := HM'; clear HM'; all_goals skip) | ((with_reducible apply own_cell HM); exact rfl; exact rfl; (first | (with_reducible exact one8)); (first | with_reducible exact .z | with_reducible exact .s .z | with_reducible exact .s (.s .z) | with_reducible exact .s (.s (.s .z)) | with_reducible exact .s (.s (.s (.s .z))) | with_reducible exact .s (.s (.s (.s (.s .z))))); (focus repeat' (first | with_reducible exact .z | with_reducible apply Drop.s)); exact rfl; all_goals skip) | ((with_reducible apply own_load HM); exact rfl; exact rfl; (first | (with_reducible exact agg11)); (first | with_reducible exact .z | with_reducible exact .s .z | with_reducible exact .s (.s .z) | with_reducible exact .s (.s (.s .z)) | with_reducible exact .s (.s (.s (.s .z))) | with_reducible exact .s (.s (.s (.s (.s .z))))); (focus repeat' (first | with_reducible exact .z | with_reducible apply Drop.s)); (focus repeat' (first | with_reducible exact .z | with_reducible apply Take.s)); exact rfl; all_goals skip) | ((with_reducible apply own_store HM); exact rfl; exact rfl; (conv => lhs; whnf); exact rfl; (first | with_reducible exact .z | with_reducible exact .s .z | with_reducible exact .s (.s .z) | with_reducible exact .s (.s (.s .z)) | with_reducible exact .s (.s (.s (.s .z))) | with_reducible exact .s (.s (.s (.s (.s .z))))); (focus repeat' (first | with_reducible exact .z | with_reducible apply Over.p | with_reducible apply Over.s)); (first | with_reducible exact .z | with_reducible exact .s .z | with_reducible exact .s (.s .z) | with_reducible exact .s (.s (.s .z)) | with_reducible exact .s (.s (.s (.s .z))) | with_reducible exact .s (.s (.s (.s (.s .z))))); (first | (with_reducible exact (agg11).size) | (with_reducible exact (one8).size)); exact rfl; exact rfl; exact rfl; exact rfl; intro w' HM'; clear HM; have HM := HM'; clear HM'; all_goals skip) | (go_at_call 8; (with_reducible refine (HQ2.out _).mono ?_); rintro e w' ⟨rfl, hb⟩; have HM' := Lib.hid (HM.out.call hb); clear HM hb; have HM := HM'; clear HM') | (go_at_call 17; (with_reducible refine (HN.out _ (HV.out.under (Own.fin HM))).mono ?_); rintro e w' ⟨rfl, hb⟩; have HM' := Lib.hid (HM.out.call hb); clear HM hb; have HM := HM'; clear HM') | ((with_reducible apply own_lay HM); exact rfl; exact rfl; exact rfl; (first | with_reducible exact .z | with_reducible exact .s .z | with_reducible exact .s (.s .z) | with_reducible exact .s (.s (.s .z)) | with_reducible exact .s (.s (.s (.s .z)))); (first | with_reducible exact .z | with_reducible exact .s .z | with_reducible exact .s (.s .z) | with_reducible exact .s (.s (.s .z)) | with_reducible exact .s (.s (.s (.s .z)))); exact aggStrip.size; exact pcells_length _ _ _; exact pcells_length _ _ _; exact pcells_one _ _ _; exact rfl; exact rfl; clear HM; intro w' HM))
        have EV := Lib.hid (show pcells 8 (lnC n xs r0 r2 r8 r9 line 0) (lnF n xs r0 r2 r8 r9 line 0) = pcells 8 (lnC n xs r0 r2 r8 r9 line 0) (lnF n xs r0 r2 r8 r9 line 0) from rfl)
        clear HQ1 HQ2 HN
        have c0 := ((HM.out.at_ .z).at_ i8).trans (pcells_color _ _ i8 (by omega))
        have c1 := ((HM.out.at_ .z).at_ (8 + i8)).trans (pcells_front _ _ i8 (by omega))
        have c2 := ((HM.out.at_ (.s .z)).at_ 0).trans (pcells_color _ _ 0 (by omega))
        have c3 := ((HM.out.at_ (.s .z)).at_ 256).trans (pcells_front _ _ 0 (by omega))
        have f2 := (HM.out.at_ (.s .z)).free 0
        have f3 := (HM.out.at_ (.s .z)).free 256
        rw [← hfj.out] at c0
        rw [← hgj.out] at c1
        obtain ⟨V, hV⟩ : ∃ x : Nat, Hid (f 0 = x) := ⟨_, rfl⟩
        obtain ⟨B, hB⟩ : ∃ x : Bool, Hid (g 0 = x) := ⟨_, rfl⟩
        obtain ⟨V0, hV0⟩ : ∃ x : Value, (.int .u8 (((if 0 < 0 then f 0 else 0 : Nat)) : Int)) = x := ⟨_, rfl⟩
        obtain ⟨B0, hB0⟩ : ∃ x : Value, (.bool (if 0 < 0 then g 0 else false)) = x := ⟨_, rfl⟩
        rw [hV0] at c2
        rw [hB0] at c3
        clear hV0 hB0
        rw [hV.out] at c0
        rw [hB.out] at c1
        have i82 : (i8 : Int) < 8 := by omega
        have HM2 := Lib.hid ((HM.out.of_cell 0 (v := .int .u8 (V : Int)) (.s .z)).of_cell 256 (v := .bool B) (.s .z)).drew
        rw [set2 f g 0 256 V B (by omega) (by omega) hV.out hB.out] at HM2
        have d1 : ¬ g4 = g3 := (List.pairwise_cons.1 HM.out.apart).1 _ (List.mem_cons_self ..)
        have d2 : ¬ g3 = g4 := fun h => d1 h.symm
        clear HM
        go_region
        go_wp2_with fail
        go_roundw
        case rel => exact ⟨0 + 1, 1, _, _, by omega, (by show _ = _; omega), by go_num, Lib.hid (ln_here n xs r0 r2 r8 r9 line 0), HM2⟩
        case measure => decide
      · obtain rfl : J = 192 := by omega
        subst k
        clear eJ
        have hlt' : 192 < 256 := by omega
        have HQ2 := Lib.hid (HQ1.out 192 (by show _ = _; omega))
        go_upto_region 12 with (first | ((with_reducible apply own_box HM); exact rfl; (conv => lhs; whnf); exact rfl; exact rfl; (first | (clear tg1; intro w' g1 HM') | (clear tg2; intro w' g2 HM') | (clear tg3; intro w' g3 HM') | (clear tg4; intro w' g4 HM') | intro w' g' HM'); clear HM; have HM := HM'; clear HM'; all_goals skip) | ((with_reducible apply own_alloc HM); exact rfl; (first | (with_reducible exact zeroP) | (with_reducible exact zeroStrip)); exact rfl; (first | (clear tg1; intro w' g1 HM') | (clear tg2; intro w' g2 HM') | (clear tg3; intro w' g3 HM') | (clear tg4; intro w' g4 HM') | intro w' g' HM'); clear HM; have HM := HM'; clear HM'; all_goals skip) | ((with_reducible apply own_cell HM); exact rfl; exact rfl; (first | (with_reducible exact one8)); (first | with_reducible exact .z | with_reducible exact .s .z | with_reducible exact .s (.s .z) | with_reducible exact .s (.s (.s .z)) | with_reducible exact .s (.s (.s (.s .z))) | with_reducible exact .s (.s (.s (.s (.s .z))))); (focus repeat' (first | with_reducible exact .z | with_reducible apply Drop.s)); exact rfl; all_goals skip) | ((with_reducible apply own_load HM); exact rfl; exact rfl; (first | (with_reducible exact agg11)); (first | with_reducible exact .z | with_reducible exact .s .z | with_reducible exact .s (.s .z) | with_reducible exact .s (.s (.s .z)) | with_reducible exact .s (.s (.s (.s .z))) | with_reducible exact .s (.s (.s (.s (.s .z))))); (focus repeat' (first | with_reducible exact .z | with_reducible apply Drop.s)); (focus repeat' (first | with_reducible exact .z | with_reducible apply Take.s)); exact rfl; all_goals skip) | ((with_reducible apply own_store HM); exact rfl; exact rfl; (conv => lhs; whnf); exact rfl; (first | with_reducible exact .z | with_reducible exact .s .z | with_reducible exact .s (.s .z) | with_reducible exact .s (.s (.s .z)) | with_reducible exact .s (.s (.s (.s .z))) | with_reducible exact .s (.s (.s (.s (.s .z))))); (focus repeat' (first | with_reducible exact .z | with_reducible apply Over.p | with_reducible apply Over.s)); (first | with_reducible exact .z | with_reducible exact .s .z | with_reducible exact .s (.s .z) | with_reducible exact .s (.s (.s .z)) | with_reducible exact .s (.s (.s (.s .z))) | with_reducible exact .s (.s (.s (.s (.s .z))))); (first | (with_reducible exact (agg11).size) | (with_reducible exact (one8).size)); exact rfl; exact rfl; exact rfl; exact rfl; intro w' HM'; clear HM; have HM := HM'; clear HM'; all_goals skip) | (go_at_call 8; (with_reducible refine (HQ2.out _).mono ?_); rintro e w' ⟨rfl, hb⟩; have HM' := Lib.hid (HM.out.call hb); clear HM hb; have HM := HM'; clear HM') | (go_at_call 17; (with_reducible refine (HN.out _ (HV.out.under (Own.fin HM))).mono ?_); rintro e w' ⟨rfl, hb⟩; have HM' := Lib.hid (HM.out.call hb); clear HM hb; have HM := HM'; clear HM') | ((with_reducible apply own_lay HM); exact rfl; exact rfl; exact rfl; (first | with_reducible exact .z | with_reducible exact .s .z | with_reducible exact .s (.s .z) | with_reducible exact .s (.s (.s .z)) | with_reducible exact .s (.s (.s (.s .z)))); (first | with_reducible exact .z | with_reducible exact .s .z | with_reducible exact .s (.s .z) | with_reducible exact .s (.s (.s .z)) | with_reducible exact .s (.s (.s (.s .z)))); exact aggStrip.size; exact pcells_length _ _ _; exact pcells_length _ _ _; exact pcells_one _ _ _; exact rfl; exact rfl; clear HM; intro w' HM))
        have EV := Lib.hid (show pcells 8 (lnC n xs r0 r2 r8 r9 line 192) (lnF n xs r0 r2 r8 r9 line 192) = pcells 8 (lnC n xs r0 r2 r8 r9 line 192) (lnF n xs r0 r2 r8 r9 line 192) from rfl)
        clear HQ1 HQ2 HN
        have c0 := ((HM.out.at_ .z).at_ i8).trans (pcells_color _ _ i8 (by omega))
        have c1 := ((HM.out.at_ .z).at_ (8 + i8)).trans (pcells_front _ _ i8 (by omega))
        have c2 := ((HM.out.at_ (.s .z)).at_ 192).trans (pcells_color _ _ 192 (by omega))
        have c3 := ((HM.out.at_ (.s .z)).at_ 448).trans (pcells_front _ _ 192 (by omega))
        have f2 := (HM.out.at_ (.s .z)).free 192
        have f3 := (HM.out.at_ (.s .z)).free 448
        rw [← hfj.out] at c0
        rw [← hgj.out] at c1
        obtain ⟨V, hV⟩ : ∃ x : Nat, Hid (f 192 = x) := ⟨_, rfl⟩
        obtain ⟨B, hB⟩ : ∃ x : Bool, Hid (g 192 = x) := ⟨_, rfl⟩
        obtain ⟨V0, hV0⟩ : ∃ x : Value, (.int .u8 (((if 192 < 192 then f 192 else 0 : Nat)) : Int)) = x := ⟨_, rfl⟩
        obtain ⟨B0, hB0⟩ : ∃ x : Value, (.bool (if 192 < 192 then g 192 else false)) = x := ⟨_, rfl⟩
        rw [hV0] at c2
        rw [hB0] at c3
        clear hV0 hB0
        rw [hV.out] at c0
        rw [hB.out] at c1
        have i82 : (i8 : Int) < 8 := by omega
        have HM2 := Lib.hid ((HM.out.of_cell 192 (v := .int .u8 (V : Int)) (.s .z)).of_cell 448 (v := .bool B) (.s .z)).drew
        rw [set2 f g 192 448 V B (by omega) (by omega) hV.out hB.out] at HM2
        have d1 : ¬ g4 = g3 := (List.pairwise_cons.1 HM.out.apart).1 _ (List.mem_cons_self ..)
        have d2 : ¬ g3 = g4 := fun h => d1 h.symm
        clear HM
        go_region
        go_wp2_with fail
        go_roundw
        case rel => exact ⟨192 + 1, 193, _, _, by omega, (by show _ = _; omega), by go_num, Lib.hid (ln_here n xs r0 r2 r8 r9 line 192), HM2⟩
        case measure => decide
      · obtain ⟨k1, k2, k3⟩ := k
        subst k3 eJ
        have k4 : ((j : Int) == 0) = false := by simp; omega
        have k5 : ((j : Int) == 192) = false := by simp; omega
        have hlt' : (j : Int) < 256 := by omega
        have HQ2 := Lib.hid (HQ1.out (j : Int) (by show _ = _; omega))
        go_upto_region 12 with (first | ((with_reducible apply own_box HM); exact rfl; (conv => lhs; whnf); exact rfl; exact rfl; (first | (clear tg1; intro w' g1 HM') | (clear tg2; intro w' g2 HM') | (clear tg3; intro w' g3 HM') | (clear tg4; intro w' g4 HM') | intro w' g' HM'); clear HM; have HM := HM'; clear HM'; all_goals skip) | ((with_reducible apply own_alloc HM); exact rfl; (first | (with_reducible exact zeroP) | (with_reducible exact zeroStrip)); exact rfl; (first | (clear tg1; intro w' g1 HM') | (clear tg2; intro w' g2 HM') | (clear tg3; intro w' g3 HM') | (clear tg4; intro w' g4 HM') | intro w' g' HM'); clear HM; have HM := HM'; clear HM'; all_goals skip) | ((with_reducible apply own_cell HM); exact rfl; exact rfl; (first | (with_reducible exact one8)); (first | with_reducible exact .z | with_reducible exact .s .z | with_reducible exact .s (.s .z) | with_reducible exact .s (.s (.s .z)) | with_reducible exact .s (.s (.s (.s .z))) | with_reducible exact .s (.s (.s (.s (.s .z))))); (focus repeat' (first | with_reducible exact .z | with_reducible apply Drop.s)); exact rfl; all_goals skip) | ((with_reducible apply own_load HM); exact rfl; exact rfl; (first | (with_reducible exact agg11)); (first | with_reducible exact .z | with_reducible exact .s .z | with_reducible exact .s (.s .z) | with_reducible exact .s (.s (.s .z)) | with_reducible exact .s (.s (.s (.s .z))) | with_reducible exact .s (.s (.s (.s (.s .z))))); (focus repeat' (first | with_reducible exact .z | with_reducible apply Drop.s)); (focus repeat' (first | with_reducible exact .z | with_reducible apply Take.s)); exact rfl; all_goals skip) | ((with_reducible apply own_store HM); exact rfl; exact rfl; (conv => lhs; whnf); exact rfl; (first | with_reducible exact .z | with_reducible exact .s .z | with_reducible exact .s (.s .z) | with_reducible exact .s (.s (.s .z)) | with_reducible exact .s (.s (.s (.s .z))) | with_reducible exact .s (.s (.s (.s (.s .z))))); (focus repeat' (first | with_reducible exact .z | with_reducible apply Over.p | with_reducible apply Over.s)); (first | with_reducible exact .z | with_reducible exact .s .z | with_reducible exact .s (.s .z) | with_reducible exact .s (.s (.s .z)) | with_reducible exact .s (.s (.s (.s .z))) | with_reducible exact .s (.s (.s (.s (.s .z))))); (first | (with_reducible exact (agg11).size) | (with_reducible exact (one8).size)); exact rfl; exact rfl; exact rfl; exact rfl; intro w' HM'; clear HM; have HM := HM'; clear HM'; all_goals skip) | (go_at_call 8; (with_reducible refine (HQ2.out _).mono ?_); rintro e w' ⟨rfl, hb⟩; have HM' := Lib.hid (HM.out.call hb); clear HM hb; have HM := HM'; clear HM') | (go_at_call 17; (with_reducible refine (HN.out _ (HV.out.under (Own.fin HM))).mono ?_); rintro e w' ⟨rfl, hb⟩; have HM' := Lib.hid (HM.out.call hb); clear HM hb; have HM := HM'; clear HM') | ((with_reducible apply own_lay HM); exact rfl; exact rfl; exact rfl; (first | with_reducible exact .z | with_reducible exact .s .z | with_reducible exact .s (.s .z) | with_reducible exact .s (.s (.s .z)) | with_reducible exact .s (.s (.s (.s .z)))); (first | with_reducible exact .z | with_reducible exact .s .z | with_reducible exact .s (.s .z) | with_reducible exact .s (.s (.s .z)) | with_reducible exact .s (.s (.s (.s .z)))); exact aggStrip.size; exact pcells_length _ _ _; exact pcells_length _ _ _; exact pcells_one _ _ _; exact rfl; exact rfl; clear HM; intro w' HM))
        have EV := Lib.hid (show pcells 8 (lnC n xs r0 r2 r8 r9 line j) (lnF n xs r0 r2 r8 r9 line j) = pcells 8 (lnC n xs r0 r2 r8 r9 line j) (lnF n xs r0 r2 r8 r9 line j) from rfl)
        clear HQ1 HQ2 HN
        have c0 := ((HM.out.at_ .z).at_ 0).trans (pcells_color _ _ 0 (by omega))
        have c1 := ((HM.out.at_ .z).at_ 8).trans (pcells_front _ _ 0 (by omega))
        have c2 := ((HM.out.at_ (.s .z)).at_ j).trans (pcells_color _ _ j (by omega))
        have c3 := ((HM.out.at_ (.s .z)).at_ (256 + j)).trans (pcells_front _ _ j (by omega))
        have f2 := (HM.out.at_ (.s .z)).free j
        have f3 := (HM.out.at_ (.s .z)).free (256 + j)
        rw [← hfj.out] at c0
        rw [← hgj.out] at c1
        obtain ⟨V, hV⟩ : ∃ x : Nat, Hid (f j = x) := ⟨_, rfl⟩
        obtain ⟨B, hB⟩ : ∃ x : Bool, Hid (g j = x) := ⟨_, rfl⟩
        obtain ⟨V0, hV0⟩ : ∃ x : Value, (.int .u8 (((if j < j then f j else 0 : Nat)) : Int)) = x := ⟨_, rfl⟩
        obtain ⟨B0, hB0⟩ : ∃ x : Value, (.bool (if j < j then g j else false)) = x := ⟨_, rfl⟩
        rw [hV0] at c2
        rw [hB0] at c3
        clear hV0 hB0
        rw [hV.out] at c0
        rw [hB.out] at c1
        have i82 : (0 : Int) < 8 := by omega
        have HM2 := Lib.hid ((HM.out.of_cell j (v := .int .u8 (V : Int)) (.s .z)).of_cell (256 + j) (v := .bool B) (.s .z)).drew
        rw [set2 f g j (256 + j) V B (by omega) (by omega) hV.out hB.out] at HM2
        have d1 : ¬ g4 = g3 := (List.pairwise_cons.1 HM.out.apart).1 _ (List.mem_cons_self ..)
        have d2 : ¬ g3 = g4 := fun h => d1 h.symm
        clear HM
        go_region
        go_wp2_with fail
        go_roundw
        case rel => exact ⟨j + 1, ((j : Int) + 1), _, _, by omega, (by show _ = _; omega), by go_num, Lib.hid (ln_here n xs r0 r2 r8 r9 line j), HM2⟩
        case measure => simp [intOf]; omega
      · obtain ⟨k1, k2, k3⟩ := k
        subst eJ
        have k4 : ((j : Int) == 0) = false := by simp; omega
        have k5 : ((j : Int) == 192) = false := by simp; omega
        have k6 : ((i8 : Int) == 0) = false := by simp; omega
        have eS : S = lnC n xs r0 r2 r8 r9 line j ∧ T = lnF n xs r0 r2 r8 r9 line j := by
          obtain ⟨y, hy⟩ : ∃ y, j = y + 1 := ⟨j - 1, by omega⟩
          have kc : ¬ baCol r0 r8 line j % 8 = 0 := by rw [hc.out, hi8.out]; exact k3
          obtain ⟨e1, e2⟩ := hST.out y hy
          rw [hy] at kc k2 ⊢
          exact ⟨e1.trans (keep_c n xs r0 r2 r8 r9 line y H8.out k2 kc), e2.trans (keep_f n xs r0 r2 r8 r9 line y H8.out k2 kc)⟩
        obtain ⟨rfl, rfl⟩ := eS
        clear k1 k2 k3
        have hlt' : (j : Int) < 256 := by omega
        have HQ2 := Lib.hid (HQ1.out (j : Int) (by show _ = _; omega))
        go_upto_region 12 with (first | ((with_reducible apply own_box HM); exact rfl; (conv => lhs; whnf); exact rfl; exact rfl; (first | (clear tg1; intro w' g1 HM') | (clear tg2; intro w' g2 HM') | (clear tg3; intro w' g3 HM') | (clear tg4; intro w' g4 HM') | intro w' g' HM'); clear HM; have HM := HM'; clear HM'; all_goals skip) | ((with_reducible apply own_alloc HM); exact rfl; (first | (with_reducible exact zeroP) | (with_reducible exact zeroStrip)); exact rfl; (first | (clear tg1; intro w' g1 HM') | (clear tg2; intro w' g2 HM') | (clear tg3; intro w' g3 HM') | (clear tg4; intro w' g4 HM') | intro w' g' HM'); clear HM; have HM := HM'; clear HM'; all_goals skip) | ((with_reducible apply own_cell HM); exact rfl; exact rfl; (first | (with_reducible exact one8)); (first | with_reducible exact .z | with_reducible exact .s .z | with_reducible exact .s (.s .z) | with_reducible exact .s (.s (.s .z)) | with_reducible exact .s (.s (.s (.s .z))) | with_reducible exact .s (.s (.s (.s (.s .z))))); (focus repeat' (first | with_reducible exact .z | with_reducible apply Drop.s)); exact rfl; all_goals skip) | ((with_reducible apply own_load HM); exact rfl; exact rfl; (first | (with_reducible exact agg11)); (first | with_reducible exact .z | with_reducible exact .s .z | with_reducible exact .s (.s .z) | with_reducible exact .s (.s (.s .z)) | with_reducible exact .s (.s (.s (.s .z))) | with_reducible exact .s (.s (.s (.s (.s .z))))); (focus repeat' (first | with_reducible exact .z | with_reducible apply Drop.s)); (focus repeat' (first | with_reducible exact .z | with_reducible apply Take.s)); exact rfl; all_goals skip) | ((with_reducible apply own_store HM); exact rfl; exact rfl; (conv => lhs; whnf); exact rfl; (first | with_reducible exact .z | with_reducible exact .s .z | with_reducible exact .s (.s .z) | with_reducible exact .s (.s (.s .z)) | with_reducible exact .s (.s (.s (.s .z))) | with_reducible exact .s (.s (.s (.s (.s .z))))); (focus repeat' (first | with_reducible exact .z | with_reducible apply Over.p | with_reducible apply Over.s)); (first | with_reducible exact .z | with_reducible exact .s .z | with_reducible exact .s (.s .z) | with_reducible exact .s (.s (.s .z)) | with_reducible exact .s (.s (.s (.s .z))) | with_reducible exact .s (.s (.s (.s (.s .z))))); (first | (with_reducible exact (agg11).size) | (with_reducible exact (one8).size)); exact rfl; exact rfl; exact rfl; exact rfl; intro w' HM'; clear HM; have HM := HM'; clear HM'; all_goals skip) | (go_at_call 8; (with_reducible refine (HQ2.out _).mono ?_); rintro e w' ⟨rfl, hb⟩; have HM' := Lib.hid (HM.out.call hb); clear HM hb; have HM := HM'; clear HM') | (go_at_call 17; (with_reducible refine (HN.out _ (HV.out.under (Own.fin HM))).mono ?_); rintro e w' ⟨rfl, hb⟩; have HM' := Lib.hid (HM.out.call hb); clear HM hb; have HM := HM'; clear HM') | ((with_reducible apply own_lay HM); exact rfl; exact rfl; exact rfl; (first | with_reducible exact .z | with_reducible exact .s .z | with_reducible exact .s (.s .z) | with_reducible exact .s (.s (.s .z)) | with_reducible exact .s (.s (.s (.s .z)))); (first | with_reducible exact .z | with_reducible exact .s .z | with_reducible exact .s (.s .z) | with_reducible exact .s (.s (.s .z)) | with_reducible exact .s (.s (.s (.s .z)))); exact aggStrip.size; exact pcells_length _ _ _; exact pcells_length _ _ _; exact pcells_one _ _ _; exact rfl; exact rfl; clear HM; intro w' HM))
        have EV := Lib.hid (show pcells 8 (lnC n xs r0 r2 r8 r9 line j) (lnF n xs r0 r2 r8 r9 line j) = pcells 8 (lnC n xs r0 r2 r8 r9 line j) (lnF n xs r0 r2 r8 r9 line j) from rfl)
        clear HQ1 HQ2 HN
        have c0 := ((HM.out.at_ .z).at_ i8).trans (pcells_color _ _ i8 (by omega))
        have c1 := ((HM.out.at_ .z).at_ (8 + i8)).trans (pcells_front _ _ i8 (by omega))
        have c2 := ((HM.out.at_ (.s .z)).at_ j).trans (pcells_color _ _ j (by omega))
        have c3 := ((HM.out.at_ (.s .z)).at_ (256 + j)).trans (pcells_front _ _ j (by omega))
        have f2 := (HM.out.at_ (.s .z)).free j
        have f3 := (HM.out.at_ (.s .z)).free (256 + j)
        rw [← hfj.out] at c0
        rw [← hgj.out] at c1
        obtain ⟨V, hV⟩ : ∃ x : Nat, Hid (f j = x) := ⟨_, rfl⟩
        obtain ⟨B, hB⟩ : ∃ x : Bool, Hid (g j = x) := ⟨_, rfl⟩
        obtain ⟨V0, hV0⟩ : ∃ x : Value, (.int .u8 (((if j < j then f j else 0 : Nat)) : Int)) = x := ⟨_, rfl⟩
        obtain ⟨B0, hB0⟩ : ∃ x : Value, (.bool (if j < j then g j else false)) = x := ⟨_, rfl⟩
        rw [hV0] at c2
        rw [hB0] at c3
        clear hV0 hB0
        rw [hV.out] at c0
        rw [hB.out] at c1
        have i82 : (i8 : Int) < 8 := by omega
        have HM2 := Lib.hid ((HM.out.of_cell j (v := .int .u8 (V : Int)) (.s .z)).of_cell (256 + j) (v := .bool B) (.s .z)).drew
        rw [set2 f g j (256 + j) V B (by omega) (by omega) hV.out hB.out] at HM2
        have d1 : ¬ g4 = g3 := (List.pairwise_cons.1 HM.out.apart).1 _ (List.mem_cons_self ..)
        have d2 : ¬ g3 = g4 := fun h => d1 h.symm
        clear HM
        go_region
        go_wp2_with fail
        go_roundw
        case rel => exact ⟨j + 1, ((j : Int) + 1), _, _, by omega, (by show _ = _; omega), by go_num, Lib.hid (ln_here n xs r0 r2 r8 r9 line j), HM2⟩
        case measure => simp [intOf]; omega
    · obtain rfl : j = 256 := by omega
      obtain rfl : J = 256 := by omega
      clear eJ
      go_wp2_with (first | ((with_reducible apply own_row HM); exact rfl; exact rfl; exact aggP; (first | with_reducible exact .z | with_reducible exact .s .z | with_reducible exact .s (.s .z) | with_reducible exact .s (.s (.s .z)) | with_reducible exact .s (.s (.s (.s .z)))); exact rfl; exact pcells_length _ _ _; all_goals skip) | ((with_reducible apply own_lay HM); exact rfl; exact rfl; exact rfl; (first | with_reducible exact .z | with_reducible exact .s .z | with_reducible exact .s (.s .z) | with_reducible exact .s (.s (.s .z)) | with_reducible exact .s (.s (.s (.s .z)))); (first | with_reducible exact .z | with_reducible exact .s .z | with_reducible exact .s (.s .z) | with_reducible exact .s (.s (.s .z)) | with_reducible exact .s (.s (.s (.s .z)))); exact aggP.size; exact pcells_length _ _ _; exact pcells_length _ _ _; exact pcells_one _ _ _; exact rfl; exact rfl; clear HM; intro w' HM))
      have ee : pcells 256 (fun i => if i < 256 then f i else 0) (fun i => if i < 256 then g i else false) = pcells 256 f g := pcells_ext (fun i hi => if_pos hi) (fun i hi => if_pos hi)
      rw [ee] at HM
      refine bodyPost_ret (v := .agg (pcells 256 f g).toArray) (own_results HM Try.results10 _ rfl (by (first | with_reducible exact .z | with_reducible exact .s .z | with_reducible exact .s (.s .z) | with_reducible exact .s (.s (.s .z)) | with_reducible exact .s (.s (.s (.s .z))))) (by rw [pcells_length]; exact aggP)) rfl ⟨rfl, Own.fin HM⟩

set_option maxRecDepth 100000 in
theorem line_o (a : Option Addr) (n cap : Nat) (r0 r1 r2 r3 r4 r5 r6 r7 r8 r9 r10 : Nat) (L : Int) (hl : L < 0 ∨ 191 < L) (w : World) :
    Calls Try.prog 10 #[.slice a n cap, regsV r0 r1 r2 r3 r4 r5 r6 r7 r8 r9 r10, .int .i64 L] w fun e w' => e = .returned (gV (fun _ => 0) (fun _ => false)) ∧ Below w.heap.size w w' := by
  have HM := Lib.hid (Own.start w)
  have tg1 : Hid True := trivial
  have tg2 : Hid True := trivial
  have tg3 : Hid True := trivial
  go_enter Try.func10, Try.ntmps10
  go_wp2_with (first | ((with_reducible apply own_box HM); exact rfl; (conv => lhs; whnf); exact rfl; exact rfl; (first | (clear tg1; intro w' g1 HM') | (clear tg2; intro w' g2 HM') | (clear tg3; intro w' g3 HM') | (clear tg4; intro w' g4 HM') | intro w' g' HM'); clear HM; have HM := HM'; clear HM'; all_goals skip) | ((with_reducible apply own_alloc HM); exact rfl; (first | (with_reducible exact zeroP) | (with_reducible exact zeroStrip)); exact rfl; (first | (clear tg1; intro w' g1 HM') | (clear tg2; intro w' g2 HM') | (clear tg3; intro w' g3 HM') | (clear tg4; intro w' g4 HM') | intro w' g' HM'); clear HM; have HM := HM'; clear HM'; all_goals skip) | ((with_reducible apply own_cell HM); exact rfl; exact rfl; (first | (with_reducible exact one8)); (first | with_reducible exact .z | with_reducible exact .s .z | with_reducible exact .s (.s .z) | with_reducible exact .s (.s (.s .z)) | with_reducible exact .s (.s (.s (.s .z))) | with_reducible exact .s (.s (.s (.s (.s .z))))); (focus repeat' (first | with_reducible exact .z | with_reducible apply Drop.s)); exact rfl; all_goals skip) | ((with_reducible apply own_load HM); exact rfl; exact rfl; (first | (with_reducible exact agg11)); (first | with_reducible exact .z | with_reducible exact .s .z | with_reducible exact .s (.s .z) | with_reducible exact .s (.s (.s .z)) | with_reducible exact .s (.s (.s (.s .z))) | with_reducible exact .s (.s (.s (.s (.s .z))))); (focus repeat' (first | with_reducible exact .z | with_reducible apply Drop.s)); (focus repeat' (first | with_reducible exact .z | with_reducible apply Take.s)); exact rfl; all_goals skip) | ((with_reducible apply own_store HM); exact rfl; exact rfl; (conv => lhs; whnf); exact rfl; (first | with_reducible exact .z | with_reducible exact .s .z | with_reducible exact .s (.s .z) | with_reducible exact .s (.s (.s .z)) | with_reducible exact .s (.s (.s (.s .z))) | with_reducible exact .s (.s (.s (.s (.s .z))))); (focus repeat' (first | with_reducible exact .z | with_reducible apply Over.p | with_reducible apply Over.s)); (first | with_reducible exact .z | with_reducible exact .s .z | with_reducible exact .s (.s .z) | with_reducible exact .s (.s (.s .z)) | with_reducible exact .s (.s (.s (.s .z))) | with_reducible exact .s (.s (.s (.s (.s .z))))); (first | (with_reducible exact (agg11).size) | (with_reducible exact (one8).size)); exact rfl; exact rfl; exact rfl; exact rfl; intro w' HM'; clear HM; have HM := HM'; clear HM'; all_goals skip) | (go_at_call 14; (with_reducible refine (shown_o L hl _).mono ?_); rintro e w' ⟨rfl, rfl⟩) | ((with_reducible apply own_row HM); exact rfl; exact rfl; exact aggP; (first | with_reducible exact .z | with_reducible exact .s .z | with_reducible exact .s (.s .z) | with_reducible exact .s (.s (.s .z)) | with_reducible exact .s (.s (.s (.s .z)))); exact rfl; exact pcells_length _ _ _; all_goals skip) | ((with_reducible apply own_lay HM); exact rfl; exact rfl; exact rfl; (first | with_reducible exact .z | with_reducible exact .s .z | with_reducible exact .s (.s .z) | with_reducible exact .s (.s (.s .z)) | with_reducible exact .s (.s (.s (.s .z)))); (first | with_reducible exact .z | with_reducible exact .s .z | with_reducible exact .s (.s .z) | with_reducible exact .s (.s (.s .z)) | with_reducible exact .s (.s (.s (.s .z)))); exact aggP.size; exact pcells_length _ _ _; exact pcells_length _ _ _; exact pcells_one _ _ _; exact rfl; exact rfl; clear HM; intro w' HM))
  refine bodyPost_ret (v := .agg (pcells 256 (fun _ => 0) (fun _ => false)).toArray) (own_results HM Try.results10 _ rfl (by (first | with_reducible exact .z | with_reducible exact .s .z | with_reducible exact .s (.s .z) | with_reducible exact .s (.s (.s .z)) | with_reducible exact .s (.s (.s (.s .z))))) (by rw [pcells_length]; exact aggP)) rfl ⟨rfl, Own.fin HM⟩

end Go.Proofs.Ytnkckdlolieojaa
