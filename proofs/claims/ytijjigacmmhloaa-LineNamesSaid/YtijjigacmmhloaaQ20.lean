import Derived.Test.YtijjigacmmhloaaQ19
namespace Go.Proofs.Ytijjigacmmhloaa
open Go.ChangeShapes Go.WideShapes Go.ChangeAt Go.RowKit Go.Joins
theorem nat_of_u8 {z : Int} (h : (Lit.int .u8 z).wf = true) : ∃ a : Nat, z = (a : Int) ∧ a < 256 := by
  have b := bounds_u8 h
  exact ⟨z.toNat, by omega, by omega⟩
theorem vregs_in {H : Type} {enc : TypeId × Value → H} {W : World} {b0 : Nat} {v : Value} {d : DataW H} {q : List MemPlace} (hv : Value.okWide Try.prog W .any b0 27 v) (h : DataW.Trod enc Try.prog W 0 (fun _ => true) true 27 v d q) :
    ∃ r0 r1 r2 r3 r4 r5 r6 r7 r8 r9 r10 : Nat, v = .agg #[.int .u8 (r0 : Int), .int .u8 (r1 : Int), .int .u8 (r2 : Int), .int .u8 (r3 : Int), .int .u8 (r4 : Int), .int .u8 (r5 : Int), .int .u8 (r6 : Int), .int .u8 (r7 : Int), .int .u8 (r8 : Int), .int .u8 (r9 : Int), .int .u8 (r10 : Int)] ∧ r0 < 256 ∧ r1 < 256 ∧ r2 < 256 ∧ r3 < 256 ∧ r4 < 256 ∧ r5 < 256 ∧ r6 < 256 ∧ r7 < 256 ∧ r8 < 256 ∧ r9 < 256 ∧ r10 < 256 := by
  obtain ⟨zs, hz, hl, hw⟩ := open_arr_ints Try.underlying27 Try.underlying5 (by kernel_rfl) (by kernel_rfl) hv h
  match zs, hl, hw, hz with
  | [z0, z1, z2, z3, z4, z5, z6, z7, z8, z9, z10], _, hw, hz =>
    obtain ⟨r0, e0, b0⟩ := nat_of_u8 (hw z0 (by simp))
    obtain ⟨r1, e1, b1⟩ := nat_of_u8 (hw z1 (by simp))
    obtain ⟨r2, e2, b2⟩ := nat_of_u8 (hw z2 (by simp))
    obtain ⟨r3, e3, b3⟩ := nat_of_u8 (hw z3 (by simp))
    obtain ⟨r4, e4, b4⟩ := nat_of_u8 (hw z4 (by simp))
    obtain ⟨r5, e5, b5⟩ := nat_of_u8 (hw z5 (by simp))
    obtain ⟨r6, e6, b6⟩ := nat_of_u8 (hw z6 (by simp))
    obtain ⟨r7, e7, b7⟩ := nat_of_u8 (hw z7 (by simp))
    obtain ⟨r8, e8, b8⟩ := nat_of_u8 (hw z8 (by simp))
    obtain ⟨r9, e9, b9⟩ := nat_of_u8 (hw z9 (by simp))
    obtain ⟨r10, e10, b10⟩ := nat_of_u8 (hw z10 (by simp))
    exact ⟨r0, r1, r2, r3, r4, r5, r6, r7, r8, r9, r10, by rw [hz, e0, e1, e2, e3, e4, e5, e6, e7, e8, e9, e10]; rfl, b0, b1, b2, b3, b4, b5, b6, b7, b8, b9, b10⟩
theorem li_or64 : ∀ r : Nat, r < 256 → bits .or .u8 (r : Int) 64 = ((Nat.lor r 64 : Nat) : Int) ∧ Nat.lor r 64 < 256 ∧ Nat.lor r 64 / 64 % 2 = 1 ∧ Nat.lor r 64 % 64 = r % 64 := by decide +kernel
theorem li_not32 : ∀ r : Nat, r < 256 → bits .andNot .u8 (r : Int) 32 = ((Nat.land r 223 : Nat) : Int) ∧ Nat.land r 223 < 256 ∧ Nat.land r 223 / 32 % 2 = 0 ∧ Nat.land r 223 / 64 = r / 64 ∧ Nat.land r 223 % 32 = r % 32 := by decide +kernel
theorem li_or32 : ∀ r : Nat, r < 256 → bits .or .u8 (r : Int) 32 = ((Nat.lor r 32 : Nat) : Int) ∧ Nat.lor r 32 < 256 ∧ Nat.lor r 32 / 32 % 2 = 1 ∧ Nat.lor r 32 / 64 = r / 64 ∧ Nat.lor r 32 % 32 = r % 32 := by decide +kernel
theorem li_not64 : ∀ r : Nat, r < 256 → bits .andNot .u8 (r : Int) 64 = ((Nat.land r 191 : Nat) : Int) ∧ Nat.land r 191 < 256 ∧ Nat.land r 191 / 64 % 2 = 0 := by decide +kernel
set_option maxRecDepth 100000 in
set_option maxHeartbeats 1600000 in
theorem hides_g0 (a1 a2 a3 : Option Addr) (n1 c1 n2 c2 n3 c3 : Nat) (r0 r1 r2 r3 r4 r5 r6 r7 r8 r9 r10 : Nat) (L : Int) (w : World) (l1 : 64 < n1)  :
    Calls Try.prog 6 #[.agg #[.slice a1 n1 c1, .slice a2 n2 c2, .slice a3 n3 c3], regsV r0 r1 r2 r3 r4 r5 r6 r7 r8 r9 r10, .int .i64 L] w fun e w' => e = .returned (.bool true) ∧ Below w.heap.size w w' := by
  have HM := Lib.hid (Own.start w)
  have tg1 : Hid True := trivial
  have tg2 : Hid True := trivial
  have B1 := Lib.hid l1
  clear l1
  go_enter Try.func6, Try.ntmps6
  go_wp2_with (first | (go_at_call 9; (with_reducible refine (alive_any _).mono ?_); rintro e w' ⟨rfl, hb⟩; replace HM := Lib.hid (HM.out.call hb); clear hb) | (go_at_call 11; (with_reducible refine (great_0 a1 a2 a3 n1 c1 n2 c2 n3 c3 _ B1.out).mono ?_); rintro e w' ⟨rfl, hb⟩; replace HM := Lib.hid (HM.out.call hb); clear hb) | ((with_reducible apply own_box HM); exact rfl; (conv => lhs; whnf); exact rfl; exact rfl; (first | (clear tg1 HM; intro w' g1 HM) | (clear tg2 HM; intro w' g2 HM) | (clear tg3 HM; intro w' g3 HM) | (clear tg4 HM; intro w' g4 HM) | (clear HM; intro w' g' HM))) | ((with_reducible apply own_alloc HM); exact rfl; (first | (with_reducible exact zeroPL) | (with_reducible exact zero11)); exact rfl; (first | (clear tg1 HM; intro w' g1 HM) | (clear tg2 HM; intro w' g2 HM) | (clear tg3 HM; intro w' g3 HM) | (clear tg4 HM; intro w' g4 HM) | (clear HM; intro w' g' HM))) | ((with_reducible apply own_cell HM); exact rfl; exact rfl; (first | (with_reducible exact oneInt) | (with_reducible exact oneBool) | (with_reducible exact oneU8) | (with_reducible exact oneBs) | (with_reducible exact oneTs)); exact sS; exact dS; exact rfl) | ((with_reducible apply own_load HM); exact rfl; exact rfl; (first | (with_reducible exact aggS3) | (with_reducible exact agg11)); exact sS; exact dS; exact tS; exact rfl) | ((with_reducible apply own_store HM); exact rfl; exact rfl; (conv => lhs; whnf); exact rfl; exact sS; exact vS; exact sS; (first | (with_reducible exact (aggS3).size) | (with_reducible exact (agg11).size) | (with_reducible exact (oneInt).size) | (with_reducible exact (oneBool).size) | (with_reducible exact (oneU8).size) | (with_reducible exact (oneBs).size) | (with_reducible exact (oneTs).size)); exact rfl; exact rfl; exact rfl; exact rfl; clear HM; intro w' HM))
  go_ret
  exact ⟨rfl, Own.fin HM⟩
set_option maxRecDepth 100000 in
set_option maxHeartbeats 1600000 in
theorem hides_g1 (a1 a2 a3 : Option Addr) (n1 c1 n2 c2 n3 c3 : Nat) (r0 r1 r2 r3 r4 r5 r6 r7 r8 r9 r10 : Nat) (L : Int) (w : World) (l1 : n1 ≤ 64) (l2 : 300 < n2)  :
    Calls Try.prog 6 #[.agg #[.slice a1 n1 c1, .slice a2 n2 c2, .slice a3 n3 c3], regsV r0 r1 r2 r3 r4 r5 r6 r7 r8 r9 r10, .int .i64 L] w fun e w' => e = .returned (.bool true) ∧ Below w.heap.size w w' := by
  have HM := Lib.hid (Own.start w)
  have tg1 : Hid True := trivial
  have tg2 : Hid True := trivial
  have B1 := Lib.hid l1
  have B2 := Lib.hid l2
  clear l1 l2
  go_enter Try.func6, Try.ntmps6
  go_wp2_with (first | (go_at_call 9; (with_reducible refine (alive_any _).mono ?_); rintro e w' ⟨rfl, hb⟩; replace HM := Lib.hid (HM.out.call hb); clear hb) | (go_at_call 11; (with_reducible refine (great_1 a1 a2 a3 n1 c1 n2 c2 n3 c3 _ B1.out B2.out).mono ?_); rintro e w' ⟨rfl, hb⟩; replace HM := Lib.hid (HM.out.call hb); clear hb) | ((with_reducible apply own_box HM); exact rfl; (conv => lhs; whnf); exact rfl; exact rfl; (first | (clear tg1 HM; intro w' g1 HM) | (clear tg2 HM; intro w' g2 HM) | (clear tg3 HM; intro w' g3 HM) | (clear tg4 HM; intro w' g4 HM) | (clear HM; intro w' g' HM))) | ((with_reducible apply own_alloc HM); exact rfl; (first | (with_reducible exact zeroPL) | (with_reducible exact zero11)); exact rfl; (first | (clear tg1 HM; intro w' g1 HM) | (clear tg2 HM; intro w' g2 HM) | (clear tg3 HM; intro w' g3 HM) | (clear tg4 HM; intro w' g4 HM) | (clear HM; intro w' g' HM))) | ((with_reducible apply own_cell HM); exact rfl; exact rfl; (first | (with_reducible exact oneInt) | (with_reducible exact oneBool) | (with_reducible exact oneU8) | (with_reducible exact oneBs) | (with_reducible exact oneTs)); exact sS; exact dS; exact rfl) | ((with_reducible apply own_load HM); exact rfl; exact rfl; (first | (with_reducible exact aggS3) | (with_reducible exact agg11)); exact sS; exact dS; exact tS; exact rfl) | ((with_reducible apply own_store HM); exact rfl; exact rfl; (conv => lhs; whnf); exact rfl; exact sS; exact vS; exact sS; (first | (with_reducible exact (aggS3).size) | (with_reducible exact (agg11).size) | (with_reducible exact (oneInt).size) | (with_reducible exact (oneBool).size) | (with_reducible exact (oneU8).size) | (with_reducible exact (oneBs).size) | (with_reducible exact (oneTs).size)); exact rfl; exact rfl; exact rfl; exact rfl; clear HM; intro w' HM))
  go_ret
  exact ⟨rfl, Own.fin HM⟩
set_option maxRecDepth 100000 in
set_option maxHeartbeats 1600000 in
theorem hides_g2 (a1 a2 a3 : Option Addr) (n1 c1 n2 c2 n3 c3 : Nat) (r0 r1 r2 r3 r4 r5 r6 r7 r8 r9 r10 : Nat) (L : Int) (w : World) (l1 : n1 ≤ 64) (l2 : n2 ≤ 300) (l3 : 100 < n3)  :
    Calls Try.prog 6 #[.agg #[.slice a1 n1 c1, .slice a2 n2 c2, .slice a3 n3 c3], regsV r0 r1 r2 r3 r4 r5 r6 r7 r8 r9 r10, .int .i64 L] w fun e w' => e = .returned (.bool true) ∧ Below w.heap.size w w' := by
  have HM := Lib.hid (Own.start w)
  have tg1 : Hid True := trivial
  have tg2 : Hid True := trivial
  have B1 := Lib.hid l1
  have B2 := Lib.hid l2
  have B3 := Lib.hid l3
  clear l1 l2 l3
  go_enter Try.func6, Try.ntmps6
  go_wp2_with (first | (go_at_call 9; (with_reducible refine (alive_any _).mono ?_); rintro e w' ⟨rfl, hb⟩; replace HM := Lib.hid (HM.out.call hb); clear hb) | (go_at_call 11; (with_reducible refine (great_2 a1 a2 a3 n1 c1 n2 c2 n3 c3 _ B1.out B2.out B3.out).mono ?_); rintro e w' ⟨rfl, hb⟩; replace HM := Lib.hid (HM.out.call hb); clear hb) | ((with_reducible apply own_box HM); exact rfl; (conv => lhs; whnf); exact rfl; exact rfl; (first | (clear tg1 HM; intro w' g1 HM) | (clear tg2 HM; intro w' g2 HM) | (clear tg3 HM; intro w' g3 HM) | (clear tg4 HM; intro w' g4 HM) | (clear HM; intro w' g' HM))) | ((with_reducible apply own_alloc HM); exact rfl; (first | (with_reducible exact zeroPL) | (with_reducible exact zero11)); exact rfl; (first | (clear tg1 HM; intro w' g1 HM) | (clear tg2 HM; intro w' g2 HM) | (clear tg3 HM; intro w' g3 HM) | (clear tg4 HM; intro w' g4 HM) | (clear HM; intro w' g' HM))) | ((with_reducible apply own_cell HM); exact rfl; exact rfl; (first | (with_reducible exact oneInt) | (with_reducible exact oneBool) | (with_reducible exact oneU8) | (with_reducible exact oneBs) | (with_reducible exact oneTs)); exact sS; exact dS; exact rfl) | ((with_reducible apply own_load HM); exact rfl; exact rfl; (first | (with_reducible exact aggS3) | (with_reducible exact agg11)); exact sS; exact dS; exact tS; exact rfl) | ((with_reducible apply own_store HM); exact rfl; exact rfl; (conv => lhs; whnf); exact rfl; exact sS; exact vS; exact sS; (first | (with_reducible exact (aggS3).size) | (with_reducible exact (agg11).size) | (with_reducible exact (oneInt).size) | (with_reducible exact (oneBool).size) | (with_reducible exact (oneU8).size) | (with_reducible exact (oneBs).size) | (with_reducible exact (oneTs).size)); exact rfl; exact rfl; exact rfl; exact rfl; clear HM; intro w' HM))
  go_ret
  exact ⟨rfl, Own.fin HM⟩
theorem baCol_eq {a b : Nat} (h : a / 64 = b / 64) (r8 line x : Nat) : baCol a r8 line x = baCol b r8 line x := by
  unfold baCol; rw [h]
theorem baRow_eq {a b : Nat} (h : a / 64 = b / 64) (r9 line x : Nat) : baRow a r9 line x = baRow b r9 line x := by
  have : a / 128 = b / 128 := by omega
  unfold baRow; rw [this]
theorem gColor_eq {a b : Nat} (h : a / 64 = b / 64) (n : Nat) (xs : Nat → Nat) (r2 r8 r9 line x : Nat) : gColor n xs a r2 r8 r9 line x = gColor n xs b r2 r8 r9 line x := by
  unfold gColor; rw [baCol_eq h, baRow_eq h]
theorem gFront_eq {a b : Nat} (h : a / 64 = b / 64) (n : Nat) (xs : Nat → Nat) (r2 r8 r9 line x : Nat) : gFront n xs a r2 r8 r9 line x = gFront n xs b r2 r8 r9 line x := by
  unfold gFront; rw [baCol_eq h, baRow_eq h]
theorem spDots_eq {a b : Nat} (h : a % 32 = b % 32) (n : Nat) (xs : Nat → Nat) (r1 r5 r6 : Nat) (line : Int) (x : Nat) : spDots n xs a r1 r5 r6 line x = spDots n xs b r1 r5 r6 line x := by
  have h8 : a / 8 % 2 = b / 8 % 2 := by omega
  unfold spDots
  refine List.map_congr_left fun i _ => ?_
  unfold spDot spDotV
  rw [h8]
theorem spC_eq {a b : Nat} (h : a % 32 = b % 32) (n : Nat) (xs : Nat → Nat) (r1 r5 r6 : Nat) (line : Int) (x : Nat) : spC n xs a r1 r5 r6 line x = spC n xs b r1 r5 r6 line x := by
  unfold spC; rw [spDots_eq h]
theorem spK_eq {a b : Nat} (h : a % 32 = b % 32) (n : Nat) (xs : Nat → Nat) (r1 r5 r6 : Nat) (line : Int) : spK n xs a r1 r5 r6 line = spK n xs b r1 r5 r6 line := by
  unfold spK
  congr 1
  funext x
  rw [spDots_eq h]
theorem liK_eq {a b : Nat} (h : a % 32 = b % 32) (n : Nat) (xs : Nat → Nat) (r1 r5 r6 : Nat) (line : Int) : liK n xs a r1 r5 r6 line = liK n xs b r1 r5 r6 line := by
  unfold liK; rw [spK_eq h]
theorem liC_far {a b : Nat} (h1 : a / 64 = b / 64) (h2 : a % 32 = b % 32) (n : Nat) (xs : Nat → Nat) (m : Nat) (ys : Nat → Nat) (r1 r2 r5 r6 r7 r8 r9 line x : Nat) (hx : ¬ x < 8) : liC n xs m ys a r1 r2 r5 r6 r7 r8 r9 line x = liC n xs m ys b r1 r2 r5 r6 r7 r8 r9 line x := by
  unfold liC liN
  rw [gColor_eq h1, gFront_eq h1, spC_eq h2]
  by_cases h : r1 / 64 % 2 = 0
  · rw [if_pos (.inl h), if_pos (.inl h)]
  · rw [if_neg (show ¬ (r1 / 64 % 2 = 0 ∨ (x < 8 ∧ a / 32 % 2 = 1)) by omega), if_neg (show ¬ (r1 / 64 % 2 = 0 ∨ (x < 8 ∧ b / 32 % 2 = 1)) by omega)]
theorem liC_dark {r1 : Nat} (h : r1 / 64 % 2 = 0) (n : Nat) (xs : Nat → Nat) (m : Nat) (ys : Nat → Nat) (r0 r2 r5 r6 r7 r8 r9 line x : Nat) : liC n xs m ys r0 r1 r2 r5 r6 r7 r8 r9 line x = liB m ys r7 := by
  unfold liC; rw [if_pos (.inl h)]
theorem liC_edge {r0 x : Nat} (h : r0 / 32 % 2 = 1) (hx : x < 8) (n : Nat) (xs : Nat → Nat) (m : Nat) (ys : Nat → Nat) (r1 r2 r5 r6 r7 r8 r9 line : Nat) : liC n xs m ys r0 r1 r2 r5 r6 r7 r8 r9 line x = liB m ys r7 := by
  unfold liC; rw [if_pos (.inr ⟨hx, h⟩)]
theorem liO_dark {r1 : Nat} (h : r1 / 64 % 2 = 0) (n : Nat) (xs : Nat → Nat) (r5 : Nat) (line : Int) : liO n xs r1 r5 line = false := by
  unfold liO; rw [h]; rfl
theorem liK_dark {r1 : Nat} (h : r1 / 64 % 2 = 0) (n : Nat) (xs : Nat → Nat) (r0 r5 r6 : Nat) (line : Int) : liK n xs r0 r1 r5 r6 line = false := by
  unfold liK; rw [h]; rfl
theorem Own.sub {W0 w : World} {l l' : List (Nat × TypeId × List Value)} (h : Own W0 w l) (hs : l'.Sublist l) : Own W0 w l' := ⟨h.below, fun e he => h.whole e (hs.subset he), h.apart.sublist hs⟩
theorem hides_facts (a a2 : Option Addr) (ys zs : Nat → Nat) (r0 r2 r3 r4 r5 r6 r7 r8 r9 r10 q1 qa qb qc : Nat) (L : Int) (h0 : r0 < 256) (hr2 : r2 < 256) (h5 : r5 < 256) (h6 : r6 < 256) (h7 : r7 < 256) (h8 : r8 < 256) (h9 : r9 < 256) (hq1 : q1 < 256) (hqa : qa < 256) (hqb : qb < 256) (hqc : qc < 256) (e1 : qb / 32 % 2 = 1) (e2 : qc / 64 % 2 = 0) (e3 : qa / 64 = qb / 64) (e4 : qa % 32 = qb % 32) :
    ∃ fa fb fc o k, (∀ w' : World, ByteRow w' a 16384 ys → ByteRow w' a2 32 zs → Calls Try.prog 8 #[.slice a 16384 16384, .slice a2 32 32, regsV qa q1 r2 r3 r4 r5 r6 r7 r8 r9 r10, .int .i64 L] w' fun e w'' => e = .returned (rowV fa o k) ∧ Below w'.heap.size w' w'') ∧ (∀ w' : World, ByteRow w' a 16384 ys → ByteRow w' a2 32 zs → Calls Try.prog 8 #[.slice a 16384 16384, .slice a2 32 32, regsV qb q1 r2 r3 r4 r5 r6 r7 r8 r9 r10, .int .i64 L] w' fun e w'' => e = .returned (rowV fb o k) ∧ Below w'.heap.size w' w'') ∧ (∀ w' : World, ByteRow w' a 16384 ys → ByteRow w' a2 32 zs → Calls Try.prog 8 #[.slice a 16384 16384, .slice a2 32 32, regsV r0 qc r2 r3 r4 r5 r6 r7 r8 r9 r10, .int .i64 L] w' fun e w'' => e = .returned (rowV fc false false) ∧ Below w'.heap.size w' w'') ∧ (∀ x, (¬ x < 8 → fa x = fb x) ∧ fc x = fc 0 ∧ (x < 8 → fb x = fc x)) := by
  by_cases k1 : L < 0 ∨ 191 < L
  · exact ⟨fun _ => 0, fun _ => 0, fun _ => 0, false, false, fun w' _ _ => draw_o a 16384 16384 a2 32 32 qa q1 r2 r3 r4 r5 r6 r7 r8 r9 r10 L k1 w', fun w' _ _ => draw_o a 16384 16384 a2 32 32 qb q1 r2 r3 r4 r5 r6 r7 r8 r9 r10 L k1 w', fun w' _ _ => draw_o a 16384 16384 a2 32 32 r0 qc r2 r3 r4 r5 r6 r7 r8 r9 r10 L k1 w', fun x => ⟨fun _ => rfl, rfl, fun _ => rfl⟩⟩
  · obtain ⟨line, rfl⟩ := Int.eq_ofNat_of_zero_le (show 0 ≤ L by omega)
    have hl : line < 192 := by omega
    refine ⟨liC 16384 ys 32 zs qa q1 r2 r5 r6 r7 r8 r9 line, liC 16384 ys 32 zs qb q1 r2 r5 r6 r7 r8 r9 line, liC 16384 ys 32 zs r0 qc r2 r5 r6 r7 r8 r9 line, liO 16384 ys q1 r5 (line : Int), liK 16384 ys qa q1 r5 r6 (line : Int), fun w' h h' => draw_in a 16384 16384 ys a2 32 32 zs qa q1 r2 r3 r4 r5 r6 r7 r8 r9 r10 line hqa hq1 hr2 h5 h6 h7 h8 h9 hl _ rfl _ _ _ rfl rfl rfl w' h h', fun w' h h' => draw_in a 16384 16384 ys a2 32 32 zs qb q1 r2 r3 r4 r5 r6 r7 r8 r9 r10 line hqb hq1 hr2 h5 h6 h7 h8 h9 hl _ rfl _ _ _ rfl rfl (by show _ = _; exact liK_eq e4.symm _ _ _ _ _ _) w' h h', fun w' h h' => draw_in a 16384 16384 ys a2 32 32 zs r0 qc r2 r3 r4 r5 r6 r7 r8 r9 r10 line h0 hqc hr2 h5 h6 h7 h8 h9 hl _ rfl _ _ _ rfl (by show _ = _; exact liO_dark e2 _ _ _ _) (by show _ = _; exact liK_dark e2 _ _ _ _ _ _) w' h h', fun x => ⟨fun hx => liC_far e3 e4 _ _ _ _ _ _ _ _ _ _ _ _ _ hx, ?_, fun hx => ?_⟩⟩
    · rw [liC_dark e2, liC_dark e2]
    · rw [liC_edge e1 hx, liC_dark e2]
set_option maxRecDepth 100000 in
set_option maxHeartbeats 12800000 in
theorem hides_in (a1 a2 a3 : Option Addr) (n1 c1 n2 c2 n3 c3 : Nat) (sp : Nat → Nat → Nat) (tl cl : Nat → Nat) (r0 r1 r2 r3 r4 r5 r6 r7 r8 r9 r10 : Nat) (L : Int) (h0 : r0 < 256) (hr1 : r1 < 256) (hr2 : r2 < 256) (h5 : r5 < 256) (h6 : r6 < 256) (h7 : r7 < 256) (h8 : r8 < 256) (h9 : r9 < 256) (w : World) (h1 : TriRow w a1 n1 sp) (h2 : ByteRow w a2 n2 tl) (h3 : ByteRow w a3 n3 cl) (l1 : n1 ≤ 64) (l2 : n2 ≤ 300) (l3 : n3 ≤ 100) :
    Calls Try.prog 6 #[.agg #[.slice a1 n1 c1, .slice a2 n2 c2, .slice a3 n3 c3], regsV r0 r1 r2 r3 r4 r5 r6 r7 r8 r9 r10, .int .i64 L] w fun e w' => e = .returned (.bool true) ∧ Below w.heap.size w w' := by
  have HM := Lib.hid (Own.start w)
  have tg1 : Hid True := trivial
  have tg2 : Hid True := trivial
  have tg3 : Hid True := trivial
  have HT1 := Lib.hid h1
  have HT2 := Lib.hid h2
  have HT3 := Lib.hid h3
  have B1 := Lib.hid l1
  have B2 := Lib.hid l2
  have B3 := Lib.hid l3
  obtain ⟨b, HB5⟩ : ∃ b, Hid (spBase r5 = b) := ⟨_, rfl⟩
  have tg4 : Hid True := trivial
  have tg5 : Hid True := trivial
  have H0 := Lib.hid h0
  have H1 := Lib.hid hr1
  have H2 := Lib.hid hr2
  have H5 := Lib.hid h5
  have H6 := Lib.hid h6
  have H7 := Lib.hid h7
  have H8 := Lib.hid h8
  have H9 := Lib.hid h9
  obtain ⟨q1, hq1⟩ : ∃ q, Nat.lor r1 64 = q := ⟨_, rfl⟩
  obtain ⟨qa, hqa⟩ : ∃ q, Nat.land r0 223 = q := ⟨_, rfl⟩
  obtain ⟨qb, hqb⟩ : ∃ q, Nat.lor r0 32 = q := ⟨_, rfl⟩
  obtain ⟨x1, x2, x3, x4⟩ := li_or64 r1 hr1
  rw [hq1] at x1 x2 x3 x4
  obtain ⟨qc, hqc⟩ : ∃ q, Nat.land q1 191 = q := ⟨_, rfl⟩
  obtain ⟨y1, y2, y3, y4, y5⟩ := li_not32 r0 h0
  rw [hqa] at y1 y2 y3 y4 y5
  obtain ⟨z1, z2, z3, z4, z5⟩ := li_or32 r0 h0
  rw [hqb] at z1 z2 z3 z4 z5
  obtain ⟨u1, u2, u3⟩ := li_not64 q1 x2
  rw [hqc] at u1 u2 u3
  have HFX := Lib.hid fun (a a2 : Option Addr) ys zs => hides_facts a a2 ys zs r0 r2 r3 r4 r5 r6 r7 r8 r9 r10 q1 qa qb qc L h0 hr2 h5 h6 h7 h8 h9 x2 y2 z2 u2 z3 u3 (y4.trans z4.symm) (y5.trans z5.symm)
  clear h1 h2 h3 l1 l2 l3 h0 hr1 hr2 h5 h6 h7 h8 h9 hq1 hqa hqb hqc x2 x3 x4 y2 y3 y4 y5 z2 z3 z4 z5 u2 u3
  have X1 := Lib.hid x1
  have Y1 := Lib.hid y1
  have Z1 := Lib.hid z1
  have U1 := Lib.hid u1
  clear x1 y1 z1 u1
  go_enter Try.func6, Try.ntmps6
  go_upto_region 6 with (first | (go_at_call 9; (with_reducible refine (alive_any _).mono ?_); rintro e w' ⟨rfl, hb⟩; replace HM := Lib.hid (HM.out.call hb); clear hb) | (go_at_call 11; (with_reducible refine (great_3 a1 a2 a3 n1 c1 n2 c2 n3 c3 _ B1.out B2.out B3.out).mono ?_); rintro e w' ⟨rfl, hb⟩; replace HM := Lib.hid (HM.out.call hb); clear hb) | (go_at_call 12; (with_reducible refine (build_any a1 a2 a3 n1 c1 n2 c2 n3 c3 sp tl cl r0 r1 r2 r3 r4 r5 r6 r7 r8 r9 r10 b H5.out HB5 _ (HT1.out.under (Own.fin HM)) (HT2.out.under (Own.fin HM)) (HT3.out.under (Own.fin HM)) B1.out B2.out B3.out).mono ?_); rintro e w' ⟨gv, gw, ys, zs, rfl, hg, hg2, hne, hW, hW2, HYZ, hb⟩; have HM' := Lib.hid (HM.out.plus2 hb hg2 hW2 hg hW hne); clear HM hb hg hg2 hne hW hW2; have HM := HM'; clear HM') | ((with_reducible apply own_box HM); exact rfl; (conv => lhs; whnf); exact rfl; exact rfl; (first | (clear tg1; intro w' g1 HM') | (clear tg2; intro w' g2 HM') | (clear tg3; intro w' g3 HM') | (clear tg4; intro w' g4 HM') | (clear tg5; intro w' g5 HM') | (clear tg6; intro w' g6 HM') | (clear tg7; intro w' g7 HM') | (clear tg8; intro w' g8 HM') | (clear tg9; intro w' g9 HM') | intro w' g' HM'); clear HM; have HM := HM'; clear HM') | ((with_reducible apply own_alloc HM); exact rfl; (first | (with_reducible exact zeroPL) | (with_reducible exact zero11)); exact rfl; (first | (clear tg1; intro w' g1 HM') | (clear tg2; intro w' g2 HM') | (clear tg3; intro w' g3 HM') | (clear tg4; intro w' g4 HM') | (clear tg5; intro w' g5 HM') | (clear tg6; intro w' g6 HM') | (clear tg7; intro w' g7 HM') | (clear tg8; intro w' g8 HM') | (clear tg9; intro w' g9 HM') | intro w' g' HM'); clear HM; have HM := HM'; clear HM') | ((with_reducible apply own_cell HM); exact rfl; exact rfl; (first | (with_reducible exact oneInt) | (with_reducible exact oneBool) | (with_reducible exact oneU8) | (with_reducible exact oneBs) | (with_reducible exact oneTs)); exact sS; exact dS; exact rfl) | ((with_reducible apply own_load HM); exact rfl; exact rfl; (first | (with_reducible exact aggS3) | (with_reducible exact agg11)); exact sS; exact dS; exact tS; exact rfl) | ((with_reducible apply own_store HM); exact rfl; exact rfl; (conv => lhs; whnf); exact rfl; exact sS; exact vS; exact sS; (first | (with_reducible exact (aggS3).size) | (with_reducible exact (agg11).size) | (with_reducible exact (oneInt).size) | (with_reducible exact (oneBool).size) | (with_reducible exact (oneU8).size) | (with_reducible exact (oneBs).size) | (with_reducible exact (oneTs).size)); exact rfl; exact rfl; exact rfl; exact rfl; clear HM; intro w' HM))
  obtain ⟨T1, hT1⟩ : ∃ T, Hid (tbx 16384 ys = T) := ⟨_, rfl⟩
  obtain ⟨T2, hT2⟩ : ∃ T, Hid (tbx 32 zs = T) := ⟨_, rfl⟩
  have HC1 : Hid (∀ i, i < 16384 → (b8 16384 ys)[i]? = some (.int .u8 (ys i : Int))) := Lib.hid fun i hi => b8_get 16384 ys i hi
  have HC2 : Hid (∀ i, i < 32 → (b8 32 zs)[i]? = some (.int .u8 (zs i : Int))) := Lib.hid fun i hi => b8_get 32 zs i hi
  (refine own_region HM (by kernel_rfl) (by kernel_rfl) ?_; (try simp only [Act.put, List.setIfInBounds_toArray, List.set_cons_zero, List.set_cons_succ]); repeat ((fail_if_success (with_reducible refine wpQuiet_nil ?_)); first | go_big_quiet_skip | (go_big_quiet_want; first | ((with_reducible apply quiet_txt hT1.out); exact rfl; exact sS; (first | exact HC1.out); go_big_quiet_op; go_big_quiet_on) | ((with_reducible apply quiet_txt hT2.out); exact rfl; exact sS; (first | exact HC2.out); go_big_quiet_op; go_big_quiet_on) | (go_big_quiet_op; go_big_quiet_on) | (go_big_quiet_op; go_big_quiet_on) | (go_big_quiet_op; refine ⟨_, fun _ _ => rfl, ?_⟩; go_big_quiet_on))))
  refine wpQuiet_nil ?_
  intro w' HM'
  clear HM; have HM := HM'; clear HM'
  have x1 := X1.out
  have y1 := Y1.out
  have z1 := Z1.out
  have u1 := U1.out
  go_upto_region 14 with (first | ((with_reducible apply own_box HM); exact rfl; (conv => lhs; whnf); exact rfl; exact rfl; (first | (clear tg1; intro w' g1 HM') | (clear tg2; intro w' g2 HM') | (clear tg3; intro w' g3 HM') | (clear tg4; intro w' g4 HM') | (clear tg5; intro w' g5 HM') | (clear tg6; intro w' g6 HM') | (clear tg7; intro w' g7 HM') | (clear tg8; intro w' g8 HM') | (clear tg9; intro w' g9 HM') | intro w' g' HM'); clear HM; have HM := HM'; clear HM') | ((with_reducible apply own_alloc HM); exact rfl; (first | (with_reducible exact zeroPL) | (with_reducible exact zero11)); exact rfl; (first | (clear tg1; intro w' g1 HM') | (clear tg2; intro w' g2 HM') | (clear tg3; intro w' g3 HM') | (clear tg4; intro w' g4 HM') | (clear tg5; intro w' g5 HM') | (clear tg6; intro w' g6 HM') | (clear tg7; intro w' g7 HM') | (clear tg8; intro w' g8 HM') | (clear tg9; intro w' g9 HM') | intro w' g' HM'); clear HM; have HM := HM'; clear HM') | ((with_reducible apply own_cell HM); exact rfl; exact rfl; (first | (with_reducible exact oneInt) | (with_reducible exact oneBool) | (with_reducible exact oneU8) | (with_reducible exact oneBs) | (with_reducible exact oneTs)); exact sS; exact dS; exact rfl) | ((with_reducible apply own_load HM); exact rfl; exact rfl; (first | (with_reducible exact aggS3) | (with_reducible exact agg11)); exact sS; exact dS; exact tS; exact rfl) | ((with_reducible apply own_store HM); exact rfl; exact rfl; (conv => lhs; whnf); exact rfl; exact sS; exact vS; exact sS; (first | (with_reducible exact (aggS3).size) | (with_reducible exact (agg11).size) | (with_reducible exact (oneInt).size) | (with_reducible exact (oneBool).size) | (with_reducible exact (oneU8).size) | (with_reducible exact (oneBs).size) | (with_reducible exact (oneTs).size)); exact rfl; exact rfl; exact rfl; exact rfl; clear HM; intro w' HM))
  clear x1 y1 z1 u1
  obtain ⟨fa, fb, fc, o, k, HDa, HDb, HDc, HF⟩ := HFX.out (some ⟨gv, 0, none⟩) (some ⟨gw, 0, none⟩) ys zs
  have hda := Lib.hid HDa
  have hdb := Lib.hid HDb
  have hdc := Lib.hid HDc
  have hff := Lib.hid HF
  clear HDa HDb HDc HF HFX
  refine wp_region_held (S := fun w' => Own w w' [(g5, 27, [.int .u8 (r0 : Int), .int .u8 (qc : Int), .int .u8 (r2 : Int), .int .u8 (r3 : Int), .int .u8 (r4 : Int), .int .u8 (r5 : Int), .int .u8 (r6 : Int), .int .u8 (r7 : Int), .int .u8 (r8 : Int), .int .u8 (r9 : Int), .int .u8 (r10 : Int)]), (g4, 27, [.int .u8 (qb : Int), .int .u8 (q1 : Int), .int .u8 (r2 : Int), .int .u8 (r3 : Int), .int .u8 (r4 : Int), .int .u8 (r5 : Int), .int .u8 (r6 : Int), .int .u8 (r7 : Int), .int .u8 (r8 : Int), .int .u8 (r9 : Int), .int .u8 (r10 : Int)]), (g3, 27, [.int .u8 (qa : Int), .int .u8 (q1 : Int), .int .u8 (r2 : Int), .int .u8 (r3 : Int), .int .u8 (r4 : Int), .int .u8 (r5 : Int), .int .u8 (r6 : Int), .int .u8 (r7 : Int), .int .u8 (r8 : Int), .int .u8 (r9 : Int), .int .u8 (r10 : Int)]), (gw, 5, b8 32 zs), (gv, 5, b8 16384 ys), (g2, 27, [.int .u8 (r0 : Int), .int .u8 (q1 : Int), .int .u8 (r2 : Int), .int .u8 (r3 : Int), .int .u8 (r4 : Int), .int .u8 (r5 : Int), .int .u8 (r6 : Int), .int .u8 (r7 : Int), .int .u8 (r8 : Int), .int .u8 (r9 : Int), .int .u8 (r10 : Int)]), (g1, 32, [.slice a1 n1 c1, .slice a2 n2 c2, .slice a3 n3 c3])]) (by kernel_rfl) ?_
  replace HM := Lib.hid HM.out.drew
  change wpAnyH _ _ _ _ _ _ _ _ (World.drew _)
  have HQ := HM.out
  refine h_take (i := 0) (d := 51) (v := .slice (some ⟨gv, 0, none⟩) 16384 16384) rfl rfl (by kernel_rfl) (by kernel_rfl) (by kernel_rfl) (fun _ _ _ h => h) (y_pure rfl (fun w => by go_simp)) HQ ?_
  (try simp only [Act.put, List.setIfInBounds_toArray, List.set_cons_zero, List.set_cons_succ])
  refine h_take (i := 1) (d := 52) (v := .slice (some ⟨gw, 0, none⟩) 32 32) rfl rfl (by kernel_rfl) (by kernel_rfl) (by kernel_rfl) (fun _ _ _ h => h) (y_pure rfl (fun w => by go_simp)) HQ ?_
  (try simp only [Act.put, List.setIfInBounds_toArray, List.set_cons_zero, List.set_cons_succ])
  refine h_take (i := 2) (d := 53) (v := .agg #[.int .u8 (qa : Int), .int .u8 (q1 : Int), .int .u8 (r2 : Int), .int .u8 (r3 : Int), .int .u8 (r4 : Int), .int .u8 (r5 : Int), .int .u8 (r6 : Int), .int .u8 (r7 : Int), .int .u8 (r8 : Int), .int .u8 (r9 : Int), .int .u8 (r10 : Int)]) rfl rfl (by kernel_rfl) (by kernel_rfl) (by kernel_rfl) (fun _ _ _ h => h) (y_row (g := g3) rfl rfl agg11 (.s (.s .z)) rfl rfl) HQ ?_
  (try simp only [Act.put, List.setIfInBounds_toArray, List.set_cons_zero, List.set_cons_succ])
  refine h_take (i := 3) (d := 54) (v := .int .i64 L) rfl rfl (by kernel_rfl) (by kernel_rfl) (by kernel_rfl) (fun _ _ _ h => h) (y_pure rfl (fun w => by go_simp)) HQ ?_
  (try simp only [Act.put, List.setIfInBounds_toArray, List.set_cons_zero, List.set_cons_succ])
  refine h_take (i := 5) (d := 56) (v := .slice (some ⟨gv, 0, none⟩) 16384 16384) rfl rfl (by kernel_rfl) (by kernel_rfl) (by kernel_rfl) (fun _ _ _ h => h) (y_pure rfl (fun w => by go_simp)) HQ ?_
  (try simp only [Act.put, List.setIfInBounds_toArray, List.set_cons_zero, List.set_cons_succ])
  refine h_take (i := 6) (d := 57) (v := .slice (some ⟨gw, 0, none⟩) 32 32) rfl rfl (by kernel_rfl) (by kernel_rfl) (by kernel_rfl) (fun _ _ _ h => h) (y_pure rfl (fun w => by go_simp)) HQ ?_
  (try simp only [Act.put, List.setIfInBounds_toArray, List.set_cons_zero, List.set_cons_succ])
  refine h_take (i := 7) (d := 58) (v := .agg #[.int .u8 (qb : Int), .int .u8 (q1 : Int), .int .u8 (r2 : Int), .int .u8 (r3 : Int), .int .u8 (r4 : Int), .int .u8 (r5 : Int), .int .u8 (r6 : Int), .int .u8 (r7 : Int), .int .u8 (r8 : Int), .int .u8 (r9 : Int), .int .u8 (r10 : Int)]) rfl rfl (by kernel_rfl) (by kernel_rfl) (by kernel_rfl) (fun _ _ _ h => h) (y_row (g := g4) rfl rfl agg11 (.s .z) rfl rfl) HQ ?_
  (try simp only [Act.put, List.setIfInBounds_toArray, List.set_cons_zero, List.set_cons_succ])
  refine h_take (i := 8) (d := 59) (v := .int .i64 L) rfl rfl (by kernel_rfl) (by kernel_rfl) (by kernel_rfl) (fun _ _ _ h => h) (y_pure rfl (fun w => by go_simp)) HQ ?_
  (try simp only [Act.put, List.setIfInBounds_toArray, List.set_cons_zero, List.set_cons_succ])
  refine h_take (i := 10) (d := 61) (v := .slice (some ⟨gv, 0, none⟩) 16384 16384) rfl rfl (by kernel_rfl) (by kernel_rfl) (by kernel_rfl) (fun _ _ _ h => h) (y_pure rfl (fun w => by go_simp)) HQ ?_
  (try simp only [Act.put, List.setIfInBounds_toArray, List.set_cons_zero, List.set_cons_succ])
  refine h_take (i := 11) (d := 62) (v := .slice (some ⟨gw, 0, none⟩) 32 32) rfl rfl (by kernel_rfl) (by kernel_rfl) (by kernel_rfl) (fun _ _ _ h => h) (y_pure rfl (fun w => by go_simp)) HQ ?_
  (try simp only [Act.put, List.setIfInBounds_toArray, List.set_cons_zero, List.set_cons_succ])
  refine h_take (i := 12) (d := 63) (v := .agg #[.int .u8 (r0 : Int), .int .u8 (qc : Int), .int .u8 (r2 : Int), .int .u8 (r3 : Int), .int .u8 (r4 : Int), .int .u8 (r5 : Int), .int .u8 (r6 : Int), .int .u8 (r7 : Int), .int .u8 (r8 : Int), .int .u8 (r9 : Int), .int .u8 (r10 : Int)]) rfl rfl (by kernel_rfl) (by kernel_rfl) (by kernel_rfl) (fun _ _ _ h => h) (y_row (g := g5) rfl rfl agg11 .z rfl rfl) HQ ?_
  (try simp only [Act.put, List.setIfInBounds_toArray, List.set_cons_zero, List.set_cons_succ])
  refine h_take (i := 13) (d := 64) (v := .int .i64 L) rfl rfl (by kernel_rfl) (by kernel_rfl) (by kernel_rfl) (fun _ _ _ h => h) (y_pure rfl (fun w => by go_simp)) HQ ?_
  (try simp only [Act.put, List.setIfInBounds_toArray, List.set_cons_zero, List.set_cons_succ])
  clear HQ
  refine three (t := 25) (z := rcells (fun _ => 0) false false) (cA := rcells fa o k) (cB := rcells fb o k) (cC := rcells fc false false) (k1 := 55) (k2 := 60) (k3 := 65) (kA := 14) (kB := 15) (kC := 16) (ready3_of (by kernel_rfl)) (by decide) ⟨by simp, by simp, by simp, by simp, by simp, by simp⟩ ?_ ?_ ?_ ?_ ?_ ?_ ?_ ?_ ?_ ?_ HM
  · intro a w' K hs hO hk
    refine wpOp_of rfl rfl ?_
    refine w_call (f := 8) (args := #[.slice (some ⟨gv, 0, none⟩) 16384 16384, .slice (some ⟨gw, 0, none⟩) 32 32, .agg #[.int .u8 (qa : Int), .int .u8 (q1 : Int), .int .u8 (r2 : Int), .int .u8 (r3 : Int), .int .u8 (r4 : Int), .int .u8 (r5 : Int), .int .u8 (r6 : Int), .int .u8 (r7 : Int), .int .u8 (r8 : Int), .int .u8 (r9 : Int), .int .u8 (r10 : Int)], .int .i64 L]) (fun w => rfl) ?_ ?_
    · simp only [List.map_toArray, List.map_cons, List.map_nil, Array.empty_append, Array.append_empty, hs 51 (by decide), hs 52 (by decide), hs 53 (by decide), hs 54 (by decide)]
      rfl
    · refine (hda.out w' (hO.out.byteRow (.s (.s (.s (.s .z)))) HYZ.out.1) (hO.out.byteRow (.s (.s (.s .z))) HYZ.out.2.1)).mono ?_
      rintro e w'' ⟨rfl, hb⟩
      exact ⟨_, rfl, hk w'' hb⟩
  · intro a w' K hs hO hk
    refine wpOp_of rfl rfl ?_
    refine w_call (f := 8) (args := #[.slice (some ⟨gv, 0, none⟩) 16384 16384, .slice (some ⟨gw, 0, none⟩) 32 32, .agg #[.int .u8 (qb : Int), .int .u8 (q1 : Int), .int .u8 (r2 : Int), .int .u8 (r3 : Int), .int .u8 (r4 : Int), .int .u8 (r5 : Int), .int .u8 (r6 : Int), .int .u8 (r7 : Int), .int .u8 (r8 : Int), .int .u8 (r9 : Int), .int .u8 (r10 : Int)], .int .i64 L]) (fun w => rfl) ?_ ?_
    · simp only [List.map_toArray, List.map_cons, List.map_nil, Array.empty_append, Array.append_empty, hs 56 (by decide), hs 57 (by decide), hs 58 (by decide), hs 59 (by decide)]
      rfl
    · refine (hdb.out w' (hO.out.byteRow (.s (.s (.s (.s .z)))) HYZ.out.1) (hO.out.byteRow (.s (.s (.s .z))) HYZ.out.2.1)).mono ?_
      rintro e w'' ⟨rfl, hb⟩
      exact ⟨_, rfl, hk w'' hb⟩
  · intro a w' K hs hO hk
    refine wpOp_of rfl rfl ?_
    refine w_call (f := 8) (args := #[.slice (some ⟨gv, 0, none⟩) 16384 16384, .slice (some ⟨gw, 0, none⟩) 32 32, .agg #[.int .u8 (r0 : Int), .int .u8 (qc : Int), .int .u8 (r2 : Int), .int .u8 (r3 : Int), .int .u8 (r4 : Int), .int .u8 (r5 : Int), .int .u8 (r6 : Int), .int .u8 (r7 : Int), .int .u8 (r8 : Int), .int .u8 (r9 : Int), .int .u8 (r10 : Int)], .int .i64 L]) (fun w => rfl) ?_ ?_
    · simp only [List.map_toArray, List.map_cons, List.map_nil, Array.empty_append, Array.append_empty, hs 61 (by decide), hs 62 (by decide), hs 63 (by decide), hs 64 (by decide)]
      rfl
    · refine (hdc.out w' (hO.out.byteRow (.s (.s (.s (.s .z)))) HYZ.out.1) (hO.out.byteRow (.s (.s (.s .z))) HYZ.out.2.1)).mono ?_
      rintro e w'' ⟨rfl, hb⟩
      exact ⟨_, rfl, hk w'' hb⟩
  · intro a w' l K hO hk
    refine wpOp_of rfl rfl ?_
    exact w_alloc hO rfl zeroPL (fun w'' g h => hk w'' g h)
  · intro a w' l K hO hk
    refine wpOp_of rfl rfl ?_
    exact w_alloc hO rfl zeroPL (fun w'' g h => hk w'' g h)
  · intro a w' l K hO hk
    refine wpOp_of rfl rfl ?_
    exact w_alloc hO rfl zeroPL (fun w'' g h => hk w'' g h)
  · intro a w' l l' g K e1 e2 hO hs hp hk
    refine wpOp_of rfl rfl ?_
    exact w_lay hO rfl e1 e2 hs hp aggPL.size (rcells_length _ _ _) (rcells_length _ _ _) (rcells_one _ _ _) rfl hk
  · intro a w' l l' g K e1 e2 hO hs hp hk
    refine wpOp_of rfl rfl ?_
    exact w_lay hO rfl e1 e2 hs hp aggPL.size (rcells_length _ _ _) (rcells_length _ _ _) (rcells_one _ _ _) rfl hk
  · intro a w' l l' g K e1 e2 hO hs hp hk
    refine wpOp_of rfl rfl ?_
    exact w_lay hO rfl e1 e2 hs hp aggPL.size (rcells_length _ _ _) (rcells_length _ _ _) (rcells_one _ _ _) rfl hk
  intro w' gA gB gC hO
  clear HM
  have HM : Hid (Own w w' [(gC, 25, rcells fc false false), (gB, 25, rcells fb o k), (gA, 25, rcells fa o k), (gw, 5, b8 32 zs), (gv, 5, b8 16384 ys)]) := Lib.hid (hO.out.sub (.cons_cons _ (.cons_cons _ (.cons_cons _ (.cons _ (.cons _ (.cons _ (.cons_cons _ (.cons_cons _ (.cons _ (.cons _ .slnil)))))))))))
  clear hO
  (try simp only [Act.put, List.setIfInBounds_toArray, List.set_cons_zero, List.set_cons_succ])
  go_upto_region 16 with fail
  go_loopw [17] (fun xv wr => ∃ x : Nat, x ≤ 256 ∧ xv = .int .i64 (x : Int) ∧ Hid (Own w wr [(gC, 25, rcells fc false false), (gB, 25, rcells fb o k), (gA, 25, rcells fa o k), (gw, 5, b8 32 zs), (gv, 5, b8 16384 ys)])) (fun xv _ => 256 - (intOf xv).toNat)
  case atStart => exact ⟨0, by omega, rfl, HM⟩
  case round =>
    clear HM
    obtain ⟨x, hx, rfl, HM⟩ := hrel
    by_cases hlt : x < 256
    · have hlt' : (x : Int) < 256 := by omega
      have HX := Lib.hid hlt
      obtain ⟨u, hu⟩ : ∃ u, fc 0 = u := ⟨_, rfl⟩
      obtain ⟨va, hva⟩ : ∃ v, fa x = v := ⟨_, rfl⟩
      obtain ⟨f1, f2, f3⟩ := hff.out x
      have HGc : Hid ((rcells fc false false)[x]? = some (.int .u8 (u : Int))) := Lib.hid (by rw [rcells_color fc false false x hlt, f2, hu])
      have HG0 : Hid ((rcells fc false false)[0]? = some (.int .u8 (u : Int))) := Lib.hid (by rw [rcells_color fc false false 0 (by decide), hu])
      by_cases h8 : x < 8
      · have K1 : ((8 : Int) ≤ (x : Int)) = False := eq_false (by omega)
        have K2 : (8 ≤ x) = False := eq_false (by omega)
        have K3 : ((x : Int) < 8) = True := eq_true (by omega)
        have K4 : (x < 8) = True := eq_true h8
        have HGb : Hid ((rcells fb o k)[x]? = some (.int .u8 (u : Int))) := Lib.hid (by rw [rcells_color fb o k x hlt, f3 h8, f2, hu])
        clear h8 hlt hx f1 f2 f3 hu hva
        go_upto_region 18 with fail
        (refine own_region HM (by kernel_rfl) (by kernel_rfl) ?_; (try simp only [Act.put, List.setIfInBounds_toArray, List.set_cons_zero, List.set_cons_succ]); repeat ((fail_if_success (with_reducible refine wpQuiet_nil ?_)); first | go_big_quiet_skip | (go_big_quiet_want; first | ((with_reducible apply quiet_get); exact rfl; exact bS3; (first | with_reducible exact .z | with_reducible exact .s .z | with_reducible exact .s (.s .z) | with_reducible exact .s (.s (.s .z)) | with_reducible exact .s (.s (.s (.s .z))) | with_reducible exact .s (.s (.s (.s (.s .z)))) | with_reducible exact .s (.s (.s (.s (.s (.s .z))))) | with_reducible exact HSA.out | with_reducible exact HSB.out | with_reducible exact HSC.out | with_reducible exact HSD.out); (first | exact HGb.out | exact HGc.out | exact HG0.out); go_big_quiet_op; go_big_quiet_on) | (go_big_quiet_op; go_big_quiet_on) | (go_big_quiet_op; go_big_quiet_on) | (go_big_quiet_op; refine ⟨_, fun _ _ => rfl, ?_⟩; go_big_quiet_on))))
        refine wpQuiet_nil ?_
        intro w' HM'
        clear HM; have HM := HM'; clear HM'
        go_wp2_with fail
        go_roundw
        case rel => exact ⟨x + 1, by have := HX.out; omega, by go_num, HM⟩
        case measure => have := HX.out; simp [intOf]; omega
      · have K1 : ((8 : Int) ≤ (x : Int)) = True := eq_true (by omega)
        have K2 : (8 ≤ x) = True := eq_true (by omega)
        have K3 : ((x : Int) < 8) = False := eq_false (by omega)
        have K4 : (x < 8) = False := eq_false h8
        have HGa : Hid ((rcells fa o k)[x]? = some (.int .u8 (va : Int))) := Lib.hid (by rw [rcells_color fa o k x hlt, hva])
        have HGb : Hid ((rcells fb o k)[x]? = some (.int .u8 (va : Int))) := Lib.hid (by rw [rcells_color fb o k x hlt, ← f1 h8, hva])
        clear h8 hlt hx f1 f2 f3 hu hva
        go_upto_region 18 with fail
        (refine own_region HM (by kernel_rfl) (by kernel_rfl) ?_; (try simp only [Act.put, List.setIfInBounds_toArray, List.set_cons_zero, List.set_cons_succ]); repeat ((fail_if_success (with_reducible refine wpQuiet_nil ?_)); first | go_big_quiet_skip | (go_big_quiet_want; first | ((with_reducible apply quiet_get); exact rfl; exact bS3; (first | with_reducible exact .z | with_reducible exact .s .z | with_reducible exact .s (.s .z) | with_reducible exact .s (.s (.s .z)) | with_reducible exact .s (.s (.s (.s .z))) | with_reducible exact .s (.s (.s (.s (.s .z)))) | with_reducible exact .s (.s (.s (.s (.s (.s .z))))) | with_reducible exact HSA.out | with_reducible exact HSB.out | with_reducible exact HSC.out | with_reducible exact HSD.out); (first | exact HGa.out | exact HGb.out | exact HGc.out | exact HG0.out); go_big_quiet_op; go_big_quiet_on) | (go_big_quiet_op; go_big_quiet_on) | (go_big_quiet_op; go_big_quiet_on) | (go_big_quiet_op; refine ⟨_, fun _ _ => rfl, ?_⟩; go_big_quiet_on))))
        refine wpQuiet_nil ?_
        intro w' HM'
        clear HM; have HM := HM'; clear HM'
        go_wp2_with fail
        go_roundw
        case rel => exact ⟨x + 1, by have := HX.out; omega, by go_num, HM⟩
        case measure => have := HX.out; simp [intOf]; omega
    · obtain rfl : x = 256 := by omega
      have GO1 : Hid ((rcells fa o k)[256]? = some (.bool o)) := Lib.hid (rcells_over _ _ _)
      have GK1 : Hid ((rcells fa o k)[257]? = some (.bool k)) := Lib.hid (rcells_meets _ _ _)
      have GO2 : Hid ((rcells fb o k)[256]? = some (.bool o)) := Lib.hid (rcells_over _ _ _)
      have GK2 : Hid ((rcells fb o k)[257]? = some (.bool k)) := Lib.hid (rcells_meets _ _ _)
      have GO3 : Hid ((rcells fc false false)[256]? = some (.bool false)) := Lib.hid (rcells_over _ _ _)
      have GK3 : Hid ((rcells fc false false)[257]? = some (.bool false)) := Lib.hid (rcells_meets _ _ _)
      go_upto_region 20 with fail
      (refine own_inorder HM ?_; (try simp only [Act.put, List.setIfInBounds_toArray, List.set_cons_zero, List.set_cons_succ]); repeat ((fail_if_success (with_reducible refine wpQuiet_nil ?_)); first | go_big_quiet_skip | (go_big_quiet_want; first | ((with_reducible apply quiet_get); exact rfl; exact bS3; (first | with_reducible exact .z | with_reducible exact .s .z | with_reducible exact .s (.s .z) | with_reducible exact .s (.s (.s .z)) | with_reducible exact .s (.s (.s (.s .z))) | with_reducible exact .s (.s (.s (.s (.s .z)))) | with_reducible exact .s (.s (.s (.s (.s (.s .z))))) | with_reducible exact HSA.out | with_reducible exact HSB.out | with_reducible exact HSC.out | with_reducible exact HSD.out); (first | exact GO1.out | exact GK1.out | exact GO2.out | exact GK2.out | exact GO3.out | exact GK3.out); go_big_quiet_op; go_big_quiet_on) | ((with_reducible apply quiet_txt hT1.out); exact rfl; exact sS; (first | exact HC1.out); go_big_quiet_op; go_big_quiet_on) | ((with_reducible apply quiet_txt hT2.out); exact rfl; exact sS; (first | exact HC2.out); go_big_quiet_op; go_big_quiet_on) | (go_big_quiet_op; go_big_quiet_on) | (go_big_quiet_op; go_big_quiet_on) | (go_big_quiet_op; refine ⟨_, fun _ _ => rfl, ?_⟩; go_big_quiet_on))))
      refine wpQuiet_nil ?_
      intro w' HM'
      clear HM; have HM := HM'; clear HM'
      go_wp2_with fail
      go_ret
      exact ⟨rfl, Own.fin HM⟩
theorem hides_any (a1 a2 a3 : Option Addr) (n1 c1 n2 c2 n3 c3 : Nat) (sp : Nat → Nat → Nat) (tl cl : Nat → Nat) (r0 r1 r2 r3 r4 r5 r6 r7 r8 r9 r10 : Nat) (L : Int) (h0 : r0 < 256) (hr1 : r1 < 256) (hr2 : r2 < 256) (h5 : r5 < 256) (h6 : r6 < 256) (h7 : r7 < 256) (h8 : r8 < 256) (h9 : r9 < 256) (w : World) (h1 : TriRow w a1 n1 sp) (h2 : ByteRow w a2 n2 tl) (h3 : ByteRow w a3 n3 cl) :
    Calls Try.prog 6 #[.agg #[.slice a1 n1 c1, .slice a2 n2 c2, .slice a3 n3 c3], regsV r0 r1 r2 r3 r4 r5 r6 r7 r8 r9 r10, .int .i64 L] w fun e w' => e = .returned (.bool true) ∧ Below w.heap.size w w' := by
  by_cases l1 : n1 ≤ 64
  · by_cases l2 : n2 ≤ 300
    · by_cases l3 : n3 ≤ 100
      · exact hides_in a1 a2 a3 n1 c1 n2 c2 n3 c3 sp tl cl r0 r1 r2 r3 r4 r5 r6 r7 r8 r9 r10 L h0 hr1 hr2 h5 h6 h7 h8 h9 w h1 h2 h3 l1 l2 l3
      · exact hides_g2 a1 a2 a3 n1 c1 n2 c2 n3 c3 r0 r1 r2 r3 r4 r5 r6 r7 r8 r9 r10 L w l1 l2 (by omega)
    · exact hides_g1 a1 a2 a3 n1 c1 n2 c2 n3 c3 r0 r1 r2 r3 r4 r5 r6 r7 r8 r9 r10 L w l1 (by omega)
  · exact hides_g0 a1 a2 a3 n1 c1 n2 c2 n3 c3 r0 r1 r2 r3 r4 r5 r6 r7 r8 r9 r10 L w (by omega)
set_option maxRecDepth 100000 in
set_option maxHeartbeats 1600000 in
theorem over_0 (a1 a2 a3 : Option Addr) (n1 c1 n2 c2 n3 c3 : Nat) (r0 r1 r2 r3 r4 r5 r6 r7 r8 r9 r10 : Nat) (L : Int) (w : World) (l1 : 64 < n1)  :
    Calls Try.prog 7 #[.agg #[.slice a1 n1 c1, .slice a2 n2 c2, .slice a3 n3 c3], regsV r0 r1 r2 r3 r4 r5 r6 r7 r8 r9 r10, .int .i64 L] w fun e w' => e = .returned (.bool true) ∧ Below w.heap.size w w' := by
  have HM := Lib.hid (Own.start w)
  have tg1 : Hid True := trivial
  have tg2 : Hid True := trivial
  have B1 := Lib.hid l1
  clear l1
  go_enter Try.func7, Try.ntmps7
  go_wp2_with (first | (go_at_call 9; (with_reducible refine (alive_any _).mono ?_); rintro e w' ⟨rfl, hb⟩; replace HM := Lib.hid (HM.out.call hb); clear hb) | (go_at_call 11; (with_reducible refine (great_0 a1 a2 a3 n1 c1 n2 c2 n3 c3 _ B1.out).mono ?_); rintro e w' ⟨rfl, hb⟩; replace HM := Lib.hid (HM.out.call hb); clear hb) | ((with_reducible apply own_box HM); exact rfl; (conv => lhs; whnf); exact rfl; exact rfl; (first | (clear tg1 HM; intro w' g1 HM) | (clear tg2 HM; intro w' g2 HM) | (clear tg3 HM; intro w' g3 HM) | (clear tg4 HM; intro w' g4 HM) | (clear HM; intro w' g' HM))) | ((with_reducible apply own_alloc HM); exact rfl; (first | (with_reducible exact zeroPL) | (with_reducible exact zero11)); exact rfl; (first | (clear tg1 HM; intro w' g1 HM) | (clear tg2 HM; intro w' g2 HM) | (clear tg3 HM; intro w' g3 HM) | (clear tg4 HM; intro w' g4 HM) | (clear HM; intro w' g' HM))) | ((with_reducible apply own_cell HM); exact rfl; exact rfl; (first | (with_reducible exact oneInt) | (with_reducible exact oneBool) | (with_reducible exact oneU8) | (with_reducible exact oneBs) | (with_reducible exact oneTs)); exact sS; exact dS; exact rfl) | ((with_reducible apply own_load HM); exact rfl; exact rfl; (first | (with_reducible exact aggS3) | (with_reducible exact agg11)); exact sS; exact dS; exact tS; exact rfl) | ((with_reducible apply own_store HM); exact rfl; exact rfl; (conv => lhs; whnf); exact rfl; exact sS; exact vS; exact sS; (first | (with_reducible exact (aggS3).size) | (with_reducible exact (agg11).size) | (with_reducible exact (oneInt).size) | (with_reducible exact (oneBool).size) | (with_reducible exact (oneU8).size) | (with_reducible exact (oneBs).size) | (with_reducible exact (oneTs).size)); exact rfl; exact rfl; exact rfl; exact rfl; clear HM; intro w' HM))
  go_ret
  exact ⟨rfl, Own.fin HM⟩
set_option maxRecDepth 100000 in
set_option maxHeartbeats 1600000 in
theorem over_1 (a1 a2 a3 : Option Addr) (n1 c1 n2 c2 n3 c3 : Nat) (r0 r1 r2 r3 r4 r5 r6 r7 r8 r9 r10 : Nat) (L : Int) (w : World) (l1 : n1 ≤ 64) (l2 : 300 < n2)  :
    Calls Try.prog 7 #[.agg #[.slice a1 n1 c1, .slice a2 n2 c2, .slice a3 n3 c3], regsV r0 r1 r2 r3 r4 r5 r6 r7 r8 r9 r10, .int .i64 L] w fun e w' => e = .returned (.bool true) ∧ Below w.heap.size w w' := by
  have HM := Lib.hid (Own.start w)
  have tg1 : Hid True := trivial
  have tg2 : Hid True := trivial
  have B1 := Lib.hid l1
  have B2 := Lib.hid l2
  clear l1 l2
  go_enter Try.func7, Try.ntmps7
  go_wp2_with (first | (go_at_call 9; (with_reducible refine (alive_any _).mono ?_); rintro e w' ⟨rfl, hb⟩; replace HM := Lib.hid (HM.out.call hb); clear hb) | (go_at_call 11; (with_reducible refine (great_1 a1 a2 a3 n1 c1 n2 c2 n3 c3 _ B1.out B2.out).mono ?_); rintro e w' ⟨rfl, hb⟩; replace HM := Lib.hid (HM.out.call hb); clear hb) | ((with_reducible apply own_box HM); exact rfl; (conv => lhs; whnf); exact rfl; exact rfl; (first | (clear tg1 HM; intro w' g1 HM) | (clear tg2 HM; intro w' g2 HM) | (clear tg3 HM; intro w' g3 HM) | (clear tg4 HM; intro w' g4 HM) | (clear HM; intro w' g' HM))) | ((with_reducible apply own_alloc HM); exact rfl; (first | (with_reducible exact zeroPL) | (with_reducible exact zero11)); exact rfl; (first | (clear tg1 HM; intro w' g1 HM) | (clear tg2 HM; intro w' g2 HM) | (clear tg3 HM; intro w' g3 HM) | (clear tg4 HM; intro w' g4 HM) | (clear HM; intro w' g' HM))) | ((with_reducible apply own_cell HM); exact rfl; exact rfl; (first | (with_reducible exact oneInt) | (with_reducible exact oneBool) | (with_reducible exact oneU8) | (with_reducible exact oneBs) | (with_reducible exact oneTs)); exact sS; exact dS; exact rfl) | ((with_reducible apply own_load HM); exact rfl; exact rfl; (first | (with_reducible exact aggS3) | (with_reducible exact agg11)); exact sS; exact dS; exact tS; exact rfl) | ((with_reducible apply own_store HM); exact rfl; exact rfl; (conv => lhs; whnf); exact rfl; exact sS; exact vS; exact sS; (first | (with_reducible exact (aggS3).size) | (with_reducible exact (agg11).size) | (with_reducible exact (oneInt).size) | (with_reducible exact (oneBool).size) | (with_reducible exact (oneU8).size) | (with_reducible exact (oneBs).size) | (with_reducible exact (oneTs).size)); exact rfl; exact rfl; exact rfl; exact rfl; clear HM; intro w' HM))
  go_ret
  exact ⟨rfl, Own.fin HM⟩
set_option maxRecDepth 100000 in
set_option maxHeartbeats 1600000 in
theorem over_2 (a1 a2 a3 : Option Addr) (n1 c1 n2 c2 n3 c3 : Nat) (r0 r1 r2 r3 r4 r5 r6 r7 r8 r9 r10 : Nat) (L : Int) (w : World) (l1 : n1 ≤ 64) (l2 : n2 ≤ 300) (l3 : 100 < n3)  :
    Calls Try.prog 7 #[.agg #[.slice a1 n1 c1, .slice a2 n2 c2, .slice a3 n3 c3], regsV r0 r1 r2 r3 r4 r5 r6 r7 r8 r9 r10, .int .i64 L] w fun e w' => e = .returned (.bool true) ∧ Below w.heap.size w w' := by
  have HM := Lib.hid (Own.start w)
  have tg1 : Hid True := trivial
  have tg2 : Hid True := trivial
  have B1 := Lib.hid l1
  have B2 := Lib.hid l2
  have B3 := Lib.hid l3
  clear l1 l2 l3
  go_enter Try.func7, Try.ntmps7
  go_wp2_with (first | (go_at_call 9; (with_reducible refine (alive_any _).mono ?_); rintro e w' ⟨rfl, hb⟩; replace HM := Lib.hid (HM.out.call hb); clear hb) | (go_at_call 11; (with_reducible refine (great_2 a1 a2 a3 n1 c1 n2 c2 n3 c3 _ B1.out B2.out B3.out).mono ?_); rintro e w' ⟨rfl, hb⟩; replace HM := Lib.hid (HM.out.call hb); clear hb) | ((with_reducible apply own_box HM); exact rfl; (conv => lhs; whnf); exact rfl; exact rfl; (first | (clear tg1 HM; intro w' g1 HM) | (clear tg2 HM; intro w' g2 HM) | (clear tg3 HM; intro w' g3 HM) | (clear tg4 HM; intro w' g4 HM) | (clear HM; intro w' g' HM))) | ((with_reducible apply own_alloc HM); exact rfl; (first | (with_reducible exact zeroPL) | (with_reducible exact zero11)); exact rfl; (first | (clear tg1 HM; intro w' g1 HM) | (clear tg2 HM; intro w' g2 HM) | (clear tg3 HM; intro w' g3 HM) | (clear tg4 HM; intro w' g4 HM) | (clear HM; intro w' g' HM))) | ((with_reducible apply own_cell HM); exact rfl; exact rfl; (first | (with_reducible exact oneInt) | (with_reducible exact oneBool) | (with_reducible exact oneU8) | (with_reducible exact oneBs) | (with_reducible exact oneTs)); exact sS; exact dS; exact rfl) | ((with_reducible apply own_load HM); exact rfl; exact rfl; (first | (with_reducible exact aggS3) | (with_reducible exact agg11)); exact sS; exact dS; exact tS; exact rfl) | ((with_reducible apply own_store HM); exact rfl; exact rfl; (conv => lhs; whnf); exact rfl; exact sS; exact vS; exact sS; (first | (with_reducible exact (aggS3).size) | (with_reducible exact (agg11).size) | (with_reducible exact (oneInt).size) | (with_reducible exact (oneBool).size) | (with_reducible exact (oneU8).size) | (with_reducible exact (oneBs).size) | (with_reducible exact (oneTs).size)); exact rfl; exact rfl; exact rfl; exact rfl; clear HM; intro w' HM))
  go_ret
  exact ⟨rfl, Own.fin HM⟩
set_option maxRecDepth 100000 in
set_option maxHeartbeats 1600000 in
theorem over_3 (a1 a2 a3 : Option Addr) (n1 c1 n2 c2 n3 c3 : Nat) (r0 r1 r2 r3 r4 r5 r6 r7 r8 r9 r10 : Nat) (L : Int) (w : World) (l1 : n1 ≤ 64) (l2 : n2 ≤ 300) (l3 : n3 ≤ 100) (hl : L < 0) :
    Calls Try.prog 7 #[.agg #[.slice a1 n1 c1, .slice a2 n2 c2, .slice a3 n3 c3], regsV r0 r1 r2 r3 r4 r5 r6 r7 r8 r9 r10, .int .i64 L] w fun e w' => e = .returned (.bool true) ∧ Below w.heap.size w w' := by
  have HM := Lib.hid (Own.start w)
  have tg1 : Hid True := trivial
  have tg2 : Hid True := trivial
  have k1 : (L < 0) = True := eq_true hl
  have B1 := Lib.hid l1
  have B2 := Lib.hid l2
  have B3 := Lib.hid l3
  clear l1 l2 l3
  go_enter Try.func7, Try.ntmps7
  go_wp2_with (first | (go_at_call 9; (with_reducible refine (alive_any _).mono ?_); rintro e w' ⟨rfl, hb⟩; replace HM := Lib.hid (HM.out.call hb); clear hb) | (go_at_call 11; (with_reducible refine (great_3 a1 a2 a3 n1 c1 n2 c2 n3 c3 _ B1.out B2.out B3.out).mono ?_); rintro e w' ⟨rfl, hb⟩; replace HM := Lib.hid (HM.out.call hb); clear hb) | ((with_reducible apply own_box HM); exact rfl; (conv => lhs; whnf); exact rfl; exact rfl; (first | (clear tg1 HM; intro w' g1 HM) | (clear tg2 HM; intro w' g2 HM) | (clear tg3 HM; intro w' g3 HM) | (clear tg4 HM; intro w' g4 HM) | (clear HM; intro w' g' HM))) | ((with_reducible apply own_alloc HM); exact rfl; (first | (with_reducible exact zeroPL) | (with_reducible exact zero11)); exact rfl; (first | (clear tg1 HM; intro w' g1 HM) | (clear tg2 HM; intro w' g2 HM) | (clear tg3 HM; intro w' g3 HM) | (clear tg4 HM; intro w' g4 HM) | (clear HM; intro w' g' HM))) | ((with_reducible apply own_cell HM); exact rfl; exact rfl; (first | (with_reducible exact oneInt) | (with_reducible exact oneBool) | (with_reducible exact oneU8) | (with_reducible exact oneBs) | (with_reducible exact oneTs)); exact sS; exact dS; exact rfl) | ((with_reducible apply own_load HM); exact rfl; exact rfl; (first | (with_reducible exact aggS3) | (with_reducible exact agg11)); exact sS; exact dS; exact tS; exact rfl) | ((with_reducible apply own_store HM); exact rfl; exact rfl; (conv => lhs; whnf); exact rfl; exact sS; exact vS; exact sS; (first | (with_reducible exact (aggS3).size) | (with_reducible exact (agg11).size) | (with_reducible exact (oneInt).size) | (with_reducible exact (oneBool).size) | (with_reducible exact (oneU8).size) | (with_reducible exact (oneBs).size) | (with_reducible exact (oneTs).size)); exact rfl; exact rfl; exact rfl; exact rfl; clear HM; intro w' HM))
  go_ret
  exact ⟨rfl, Own.fin HM⟩
set_option maxRecDepth 100000 in
set_option maxHeartbeats 1600000 in
theorem over_4 (a1 a2 a3 : Option Addr) (n1 c1 n2 c2 n3 c3 : Nat) (r0 r1 r2 r3 r4 r5 r6 r7 r8 r9 r10 : Nat) (L : Int) (w : World) (l1 : n1 ≤ 64) (l2 : n2 ≤ 300) (l3 : n3 ≤ 100) (hl : 191 < L) :
    Calls Try.prog 7 #[.agg #[.slice a1 n1 c1, .slice a2 n2 c2, .slice a3 n3 c3], regsV r0 r1 r2 r3 r4 r5 r6 r7 r8 r9 r10, .int .i64 L] w fun e w' => e = .returned (.bool true) ∧ Below w.heap.size w w' := by
  have HM := Lib.hid (Own.start w)
  have tg1 : Hid True := trivial
  have tg2 : Hid True := trivial
  have k1 : (L < 0) = False := eq_false (by omega)
  have k2 : ((191 : Int) < L) = True := eq_true hl
  have B1 := Lib.hid l1
  have B2 := Lib.hid l2
  have B3 := Lib.hid l3
  clear l1 l2 l3
  go_enter Try.func7, Try.ntmps7
  go_wp2_with (first | (go_at_call 9; (with_reducible refine (alive_any _).mono ?_); rintro e w' ⟨rfl, hb⟩; replace HM := Lib.hid (HM.out.call hb); clear hb) | (go_at_call 11; (with_reducible refine (great_3 a1 a2 a3 n1 c1 n2 c2 n3 c3 _ B1.out B2.out B3.out).mono ?_); rintro e w' ⟨rfl, hb⟩; replace HM := Lib.hid (HM.out.call hb); clear hb) | ((with_reducible apply own_box HM); exact rfl; (conv => lhs; whnf); exact rfl; exact rfl; (first | (clear tg1 HM; intro w' g1 HM) | (clear tg2 HM; intro w' g2 HM) | (clear tg3 HM; intro w' g3 HM) | (clear tg4 HM; intro w' g4 HM) | (clear HM; intro w' g' HM))) | ((with_reducible apply own_alloc HM); exact rfl; (first | (with_reducible exact zeroPL) | (with_reducible exact zero11)); exact rfl; (first | (clear tg1 HM; intro w' g1 HM) | (clear tg2 HM; intro w' g2 HM) | (clear tg3 HM; intro w' g3 HM) | (clear tg4 HM; intro w' g4 HM) | (clear HM; intro w' g' HM))) | ((with_reducible apply own_cell HM); exact rfl; exact rfl; (first | (with_reducible exact oneInt) | (with_reducible exact oneBool) | (with_reducible exact oneU8) | (with_reducible exact oneBs) | (with_reducible exact oneTs)); exact sS; exact dS; exact rfl) | ((with_reducible apply own_load HM); exact rfl; exact rfl; (first | (with_reducible exact aggS3) | (with_reducible exact agg11)); exact sS; exact dS; exact tS; exact rfl) | ((with_reducible apply own_store HM); exact rfl; exact rfl; (conv => lhs; whnf); exact rfl; exact sS; exact vS; exact sS; (first | (with_reducible exact (aggS3).size) | (with_reducible exact (agg11).size) | (with_reducible exact (oneInt).size) | (with_reducible exact (oneBool).size) | (with_reducible exact (oneU8).size) | (with_reducible exact (oneBs).size) | (with_reducible exact (oneTs).size)); exact rfl; exact rfl; exact rfl; exact rfl; clear HM; intro w' HM))
  go_ret
  exact ⟨rfl, Own.fin HM⟩
theorem spL_none {n : Nat} {xs : Nat → Nat} {r1 r5 b : Nat} {line : Int} (hb : spBase r5 = b) (hn : n = 16384) (h : xs b = 208) : spL n xs r1 r5 line = [] := by
  have hb1 := spBase_le r5
  refine spFrom_end (y := 208) ?_ rfl
  unfold spY mem vget
  rw [hb, Nat.add_zero, Nat.mod_eq_of_lt (by omega), if_pos (by omega), h]
theorem spC_none {n : Nat} {xs : Nat → Nat} {r0 r1 r5 r6 : Nat} {line : Int} (h : spL n xs r1 r5 line = []) (x : Nat) : spC n xs r0 r1 r5 r6 line x = 0 := by
  unfold spC spDots
  rw [h]; rfl
theorem liO_none {n : Nat} {xs : Nat → Nat} {r1 r5 : Nat} {line : Int} (h : spL n xs r1 r5 line = []) : liO n xs r1 r5 line = false := by
  unfold liO spO
  rw [h]; simp
theorem liK_none {n : Nat} {xs : Nat → Nat} {r0 r1 r5 r6 : Nat} {line : Int} (h : spL n xs r1 r5 line = []) : liK n xs r0 r1 r5 r6 line = false := by
  have : spK n xs r0 r1 r5 r6 line = false := by
    unfold spK
    rw [List.any_eq_false]
    intro x _ hx
    unfold spDots at hx
    rw [h] at hx
    exact absurd (of_decide_eq_true hx) (by show ¬ 2 ≤ spCnt []; decide)
  unfold liK
  rw [this]; simp
theorem liP_const (v : Nat) (m : Nat) (hm : 32 ≤ m) : liP m (fun _ => 42) v = 42 := by
  unfold liP vget
  rw [if_pos (by omega)]; rfl
theorem liC_const (n : Nat) (xs : Nat → Nat) (r0 r1 r2 r5 r6 r7 r8 r9 line x : Nat) : liC n xs 32 (fun _ => 42) r0 r1 r2 r5 r6 r7 r8 r9 line x = 42 := by
  unfold liC liB
  split <;> exact liP_const _ _ (by decide)
theorem liC_ground {n : Nat} {xs : Nat → Nat} {m : Nat} {ys : Nat → Nat} {r0 r1 r2 r5 r6 r7 r8 r9 line : Nat} (h : spL n xs r1 r5 (line : Int) = []) (s1 : r1 / 64 % 2 = 1) (s0 : r0 / 32 % 2 = 0) (x : Nat) : liC n xs m ys r0 r1 r2 r5 r6 r7 r8 r9 line x = liP m ys (gColor n xs r0 r2 r8 r9 line x) := by
  unfold liC liN
  rw [if_neg (by omega), if_pos (.inl (spC_none h x))]
theorem idx_any (cs : List Value) (j : Nat) (v : Value) (hj : j < 256) (hv : cs[j]? = some v) (w : World) : (Instr.index 23 (.agg cs.toArray) (.int .i64 (j : Int))).run Try.prog w = .ok v w := by
  obtain ⟨i3, hi3⟩ := Option.isSome_iff_exists.1 (show (Try.prog.info? 5).isSome = true by kernel_rfl)
  have hc : Try.prog.cellsOf 5 = 1 := by kernel_rfl
  have h1 : (0 : Int) ≤ (j : Int) ∧ (j : Int) < ((256 : Nat) : Int) := by omega
  have hp := part_one (P := Try.prog) (t := 5) cs.toArray j v ⟨_, Try.underlying5, rfl⟩ (by rw [List.getElem?_toArray]; exact hv) w
  unfold Instr.index
  simp only [asIntOf, Sem.run_bind, Sem.run_pure, Result.andThen_ok, run_underlying Try.underlying23]
  rw [if_pos h1]
  simp only [Sem.run_bind, run_sizeOf w hi3, hc, Result.andThen_ok, Nat.mul_one, Int.toNat_natCast]
  exact hp
theorem take_of : ∀ (l : List Value) (n : Nat), n ≤ l.length → Take l n (l.take n)
  | l, 0, _ => .z
  | [], n + 1, h => by simp at h
  | x :: l, n + 1, h => .s (take_of l n (by simpa using h))
theorem agg256 : Agg Try.prog 23 256 := ⟨⟨_, Try.underlying23, rfl⟩, by kernel_rfl⟩
end Go.Proofs.Ytijjigacmmhloaa
