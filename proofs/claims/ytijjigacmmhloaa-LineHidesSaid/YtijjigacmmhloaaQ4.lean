import Derived.Test.YtijjigacmmhloaaQ3
namespace Go.Proofs.Ytijjigacmmhloaa
open Go.RowKit
theorem aggStrip : Agg Try.prog 73 16 := ⟨⟨_, Try.underlying73, rfl⟩, by kernel_rfl⟩
theorem zeroStrip : Zero Try.prog 73 (pcells 8 (fun _ => 0) (fun _ => false)) := ⟨.agg (pcells 8 (fun _ => 0) (fun _ => false)).toArray, fun _ => by kernel_rfl, rfl⟩
theorem land_14 : ∀ a, a < 256 → Nat.land a 14 = a / 2 % 8 * 2 := by decide +kernel
theorem land_1 : ∀ a, a < 16 → Nat.land a 1 = a % 2 := by decide +kernel
theorem land_2 : ∀ a, a < 16 → Nat.land a 2 = 2 * (a / 2 % 2) := by decide +kernel
theorem land_4 : ∀ a, a < 16 → Nat.land a 4 = 4 * (a / 4 % 2) := by decide +kernel
theorem land_8 : ∀ a, a < 16 → Nat.land a 8 = 8 * (a / 8) := by decide +kernel
theorem idx8 (D : Nat → Nat) (j d : Nat) (hj : j < 8) (hd : D j = d) (w : World) : (Instr.index 70 (.agg #[.int .u8 (D 0 : Int), .int .u8 (D 1 : Int), .int .u8 (D 2 : Int), .int .u8 (D 3 : Int), .int .u8 (D 4 : Int), .int .u8 (D 5 : Int), .int .u8 (D 6 : Int), .int .u8 (D 7 : Int)]) (.int .i64 (j : Int))).run Try.prog w = .ok (.int .u8 (d : Int)) w := by
  subst hd
  obtain rfl | rfl | rfl | rfl | rfl | rfl | rfl | rfl : j = 0 ∨ j = 1 ∨ j = 2 ∨ j = 3 ∨ j = 4 ∨ j = 5 ∨ j = 6 ∨ j = 7 := by omega
  all_goals kernel_rfl
def stD (n : Nat) (xs : Nat → Nat) (m q i : Nat) : Nat := tDot n xs (m % 512) (baR (m / 512 % 16) q) (if m / 512 % 16 % 2 = 1 then 7 - i else i)
def stC (n : Nat) (xs : Nat → Nat) (m q i : Nat) : Nat := baV (stD n xs m q i) (m / 512 % 16)
def stF (n : Nat) (xs : Nat → Nat) (m q i : Nat) : Bool := baF (stD n xs m q i) (m / 512 % 16)
theorem row_any (a : Option Addr) (n cap : Nat) (xs : Nat → Nat) (m q e r t : Nat) (R : Int) (D : Nat → Nat) (he : m % 512 = e) (ht : m / 512 % 16 % 2 = t) (hr : baR (m / 512 % 16) q = r) (hR : R = (r : Int)) (hD : Hid (stD n xs m q = D)) (b : Bool) (hb : b = decide (t = 1)) (w : World) (hV : ByteRow w a n xs) :
    Calls Try.prog 46 #[.slice a n cap, .int .i64 (e : Int), .int .i64 R, .bool b] w fun e w' => e = .returned (.agg #[.int .u8 (D 0 : Int), .int .u8 (D 1 : Int), .int .u8 (D 2 : Int), .int .u8 (D 3 : Int), .int .u8 (D 4 : Int), .int .u8 (D 5 : Int), .int .u8 (D 6 : Int), .int .u8 (D 7 : Int)]) ∧ Below w.heap.size w w' := by
  have r1 : r < 8 := hr ▸ baR_lt _ _
  have e1 : e < 512 := by omega
  have hx : ∀ i, tDot n xs e r (if t = 1 then 7 - i else i) = D i := fun i => by rw [← hD.out]; unfold stD; rw [he, hr, ht]
  rcases (show t = 1 ∨ t = 0 by omega) with rfl | rfl
  · obtain rfl : b = true := by rw [hb]; rfl
    exact row_t a n cap xs e R e r (32 * e + 4 * r) _ _ _ _ (D 7) (D 6) (D 5) (D 4) (D 3) (D 2) (D 1) (D 0) (by show _ = _; omega) (by show _ = _; omega) (by show _ = _; omega) (Lib.hid rfl) (Lib.hid rfl) (Lib.hid rfl) (Lib.hid rfl) (hx 7) (hx 6) (hx 5) (hx 4) (hx 3) (hx 2) (hx 1) (hx 0) w hV
  · obtain rfl : b = false := by rw [hb]; rfl
    exact row_f a n cap xs e R e r (32 * e + 4 * r) _ _ _ _ (D 0) (D 1) (D 2) (D 3) (D 4) (D 5) (D 6) (D 7) (by show _ = _; omega) (by show _ = _; omega) (by show _ = _; omega) (Lib.hid rfl) (Lib.hid rfl) (Lib.hid rfl) (Lib.hid rfl) (hx 0) (hx 1) (hx 2) (hx 3) (hx 4) (hx 5) (hx 6) (hx 7) w hV
theorem step_c4 (C D : Nat → Nat) (j d : Nat) (hd : D j = d) (hC : C j = d + 16) : upd (upd (fun i => if i < j then C i else 0) j d) j (d + 16) = fun i => if i < j + 1 then C i else 0 := by
  funext i
  unfold upd
  by_cases h1 : i = j
  · subst h1; simp [hC]
  · simp only [if_neg h1]
    by_cases h2 : i < j
    · simp [h2, show i < j + 1 by omega]
    · simp [h2, show ¬ i < j + 1 by omega]
theorem step_c0 (C D : Nat → Nat) (j d : Nat) (hd : D j = d) (hC : C j = d) : upd (fun i => if i < j then C i else 0) j d = fun i => if i < j + 1 then C i else 0 := by
  funext i
  unfold upd
  by_cases h1 : i = j
  · subst h1; simp [hC]
  · simp only [if_neg h1]
    by_cases h2 : i < j
    · simp [h2, show i < j + 1 by omega]
    · simp [h2, show ¬ i < j + 1 by omega]
theorem step_f (F : Nat → Bool) (j : Nat) (b : Bool) (hF : F j = b) : updB (fun i => if i < j then F i else false) j b = fun i => if i < j + 1 then F i else false := by
  funext i
  unfold updB
  by_cases h1 : i = j
  · subst h1; simp [hF]
  · simp only [if_neg h1]
    by_cases h2 : i < j
    · simp [h2, show i < j + 1 by omega]
    · simp [h2, show ¬ i < j + 1 by omega]
set_option maxRecDepth 100000 in
set_option maxHeartbeats 3200000 in
theorem strip_at (a : Option Addr) (n cap : Nat) (xs : Nat → Nat) (r0 r1 r2 r3 r4 r5 r6 r7 r8 r9 r10 c q m : Nat) (h2 : r2 < 256) (hc : c < 256) (hq : q < 224) (hm : Hid (baN n xs r2 q c = m)) (f : Nat → Nat) (g : Nat → Bool) (hf : Hid (stC n xs m q = f)) (hg : Hid (stF n xs m q = g)) (w : World) (hV : ByteRow w a n xs) :
    Calls Try.prog 32 #[.slice a n cap, regsV r0 r1 r2 r3 r4 r5 r6 r7 r8 r9 r10, .int .i64 (c : Int), .int .i64 (q : Int)] w fun e w' => e = .returned (.agg (pcells 8 f g).toArray) ∧ Below w.heap.size w w' := by
  have HM := Lib.hid (Own.start w)
  have tg1 : Hid True := trivial
  have tg2 : Hid True := trivial
  have tg3 : Hid True := trivial
  have HV := Lib.hid hV
  have H2 := Lib.hid h2
  have QL := Lib.hid (baQ_lt r2 q c hq hc)
  obtain ⟨p, hp⟩ : ∃ p : Nat, Hid (r2 / 2 % 8 * 2 = p) := ⟨_, rfl⟩
  obtain ⟨q8, hq8⟩ : ∃ x : Nat, Hid (q / 8 = x) := ⟨_, rfl⟩
  obtain ⟨c8, hc8⟩ : ∃ x : Nat, Hid (c / 8 = x) := ⟨_, rfl⟩
  obtain ⟨q7, hq7⟩ : ∃ x : Nat, Hid (q % 8 = x) := ⟨_, rfl⟩
  obtain ⟨e, he⟩ : ∃ x : Nat, Hid (m % 512 = x) := ⟨_, rfl⟩
  obtain ⟨h, hh⟩ : ∃ x : Nat, Hid (m / 512 % 16 = x) := ⟨_, rfl⟩
  obtain ⟨D, hD⟩ : ∃ D : Nat → Nat, Hid (stD n xs m q = D) := ⟨_, rfl⟩
  obtain ⟨k0, hk0⟩ : ∃ x : Nat, Hid (baQ r2 q c = x) := ⟨_, rfl⟩
  have p1 : (p : Int) ≤ 14 := by have := hp.out; omega
  have q71 : (q7 : Int) < 8 := by have := hq7.out; omega
  have q81 : (q8 : Int) < 28 := by have := hq8.out; omega
  have c81 : (c8 : Int) < 32 := by have := hc8.out; omega
  have e_p : bits .and .u8 (r2 : Int) 14 = (p : Int) := ((u8_and_nat r2 14 h2 (by decide)).trans (congrArg _ (land_14 r2 h2))).trans (by rw [hp.out])
  have e_q8 : (q : Int) / 8 = (q8 : Int) := by have := hq8.out; omega
  have e_c8 : (c : Int) / 8 = (c8 : Int) := by have := hc8.out; omega
  have e_q7 : (q : Int).tmod 8 = (q7 : Int) := by rw [Int.tmod_eq_emod_of_nonneg (by omega)]; have := hq7.out; omega
  have h16 : h < 16 := by have := hh.out; omega
  have H16 := Lib.hid h16
  have a1 := Lib.hid ((u8_and_nat h 1 (by omega) (by decide)).trans (congrArg _ (land_1 h h16)))
  have a2 := Lib.hid ((u8_and_nat h 2 (by omega) (by decide)).trans (congrArg _ (land_2 h h16)))
  have a4 := Lib.hid ((u8_and_nat h 4 (by omega) (by decide)).trans (congrArg _ (land_4 h h16)))
  have a8 := Lib.hid ((u8_and_nat h 8 (by omega) (by decide)).trans (congrArg _ (land_8 h h16)))
  have hD16 : Hid (∀ i, D i < 16) := Lib.hid fun i => by rw [← hD.out]; exact tDot_lt _ _ _ _ _
  have hC : Hid (∀ i, f i = D i + 16 * (h / 4 % 2)) := Lib.hid fun i => by rw [← hf.out, ← hD.out, ← hh.out]; rfl
  have hF : Hid (∀ i, g i = (decide (h / 8 = 1) && decide (0 < D i))) := Lib.hid fun i => by rw [← hg.out, ← hD.out, ← hh.out]; rfl
  have HE : ∀ w', Hid (ByteRow w' a n xs) → Calls Try.prog 45 #[.slice a n cap, .int .i64 (1024 * (p : Int)), .int .i64 (q8 : Int), .int .i64 (c8 : Int)] w' fun x w1 => x = .returned (.tuple #[.int .i64 (e : Int), .int .u8 (h : Int)]) ∧ w' = w1 := fun w' hV' => by
    have t1 := hk0.out
    have t2 := hp.out
    have t3 := hq8.out
    have t4 := hc8.out
    have t5 := QL.out
    have t6 := hm.out
    have t7 := H2.out
    unfold baQ at t1 t5
    unfold baN at t6
    rw [hk0.out] at t6
    exact entry_at a n cap xs (1024 * (p : Int)) (q8 : Int) (c8 : Int) (1024 * (p : Int)) (q8 : Int) (c8 : Int) (k0 : Int) k0 (k0 + 1) _ _ e h (by show _ = _; omega) (by show _ = _; omega) (by show _ = _; omega) (by show _ = _; omega) (by show _ = _; omega) (by show _ = _; omega) (Lib.hid rfl) (Lib.hid rfl) (by show _ = _; rw [t6]; exact he.out) (by show _ = _; rw [t6]; exact hh.out) w' hV'.out
  have HE' := Lib.hid HE
  clear HE h16 h2 hc hq hV QL
  rcases (show h / 2 % 2 = 1 ∨ h / 2 % 2 = 0 by omega) with k2 | k2 <;> rcases (show h % 2 = 1 ∨ h % 2 = 0 by omega) with k1 | k1
  · have E2 : bits .and .u8 (h : Int) 2 = 2 := by have := a2.out; rw [k2] at this; exact this
    have E1 : bits .and .u8 (h : Int) 1 = 1 := by have := a1.out; rw [k1] at this; exact this
    have ER : Hid ((7 - (q7 : Int)) = ((baR h q : Nat) : Int)) := by show _ = _; have := hq7.out; unfold baR; rw [k2]; simp only [if_true]; omega
    have HR := Lib.hid fun (w' : World) hV' => row_any a n cap xs m q e (baR h q) (h % 2) (7 - (q7 : Int)) D he.out (by rw [hh.out]) (by rw [hh.out]) ER.out hD true (by rw [k1]; rfl) w' hV'
    go_enter Try.func32, Try.ntmps32
    go_wp2_with (first | ((with_reducible apply own_box HM); exact rfl; (conv => lhs; whnf); exact rfl; exact rfl; (first | (clear tg1 HM; intro w' g1 HM) | (clear tg2 HM; intro w' g2 HM) | (clear tg3 HM; intro w' g3 HM) | (clear tg4 HM; intro w' g4 HM) | (clear HM; intro w' g' HM))) | ((with_reducible apply own_alloc HM); exact rfl; (first | (with_reducible exact zeroStrip)); exact rfl; (first | (clear tg1 HM; intro w' g1 HM) | (clear tg2 HM; intro w' g2 HM) | (clear tg3 HM; intro w' g3 HM) | (clear tg4 HM; intro w' g4 HM) | (clear HM; intro w' g' HM))) | ((with_reducible apply own_cell HM); exact rfl; exact rfl; (first | (with_reducible exact one8)); exact sS; exact dS; exact rfl) | ((with_reducible apply own_load HM); exact rfl; exact rfl; (first | (with_reducible exact agg11)); exact sS; exact dS; exact tS; exact rfl) | ((with_reducible apply own_store HM); exact rfl; exact rfl; (conv => lhs; whnf); exact rfl; exact sS; exact vS; exact sS; (first | (with_reducible exact (agg11).size) | (with_reducible exact (one8).size)); exact rfl; exact rfl; exact rfl; exact rfl; clear HM; intro w' HM) | (go_at_call 45; (with_reducible refine (HE'.out _ (Lib.hid (HV.out.under (Own.fin HM)))).mono ?_); rintro e w' ⟨rfl, rfl⟩) | (go_at_call 46; (with_reducible refine (HR.out _ (HV.out.under (Own.fin HM))).mono ?_); rintro e w' ⟨rfl, hb⟩; replace HM := Lib.hid (HM.out.call hb); clear hb))
    clear E1 E2 HR HE' ER e_p e_q8 e_c8 e_q7
    go_loopw [45] (fun i wr => ∃ j : Nat, j ≤ 8 ∧ i = .int .i64 (j : Int) ∧ Hid (Own w wr [(g3, 73, pcells 8 (fun i => if i < j then f i else 0) (fun i => if i < j then g i else false)), (g2, 73, pcells 8 (fun _ => 0) (fun _ => false)), (g1, 27, [.int .u8 (r0 : Int), .int .u8 (r1 : Int), .int .u8 (r2 : Int), .int .u8 (r3 : Int), .int .u8 (r4 : Int), .int .u8 (r5 : Int), .int .u8 (r6 : Int), .int .u8 (r7 : Int), .int .u8 (r8 : Int), .int .u8 (r9 : Int), .int .u8 (r10 : Int)])])) (fun i _ => 8 - (intOf i).toNat)
    case atStart => exact ⟨0, by omega, rfl, by simpa using HM⟩
    case round =>
      clear HM
      obtain ⟨j, hj, rfl, HM⟩ := hrel
      by_cases hlt : j < 8
      · have hlt' : (j : Int) < 8 := by omega
        obtain ⟨d, hd⟩ : ∃ d : Nat, Hid (D j = d) := ⟨_, rfl⟩
        have d16 : (d : Int) < 16 := by have := hD16.out j; rw [hd.out] at this; omega
        have hz : ((d : Int) != 0) = decide (0 < d) := by
          rcases Nat.eq_zero_or_pos d with h0 | h0
          · subst h0; rfl
          · simp [h0]; omega
        rcases (show h / 4 % 2 = 1 ∨ h / 4 % 2 = 0 by omega) with k4 | k4 <;> rcases (show h / 8 = 1 ∨ h / 8 = 0 by have := H16.out; omega) with k8 | k8
        · have hfj : f j = d + 16 := by rw [hC.out, hd.out, k4]
          have hgj : g j = decide (0 < d) := by rw [hF.out, hd.out, k8]; simp
          have E4 : bits .and .u8 (h : Int) 4 = 4 := by have := a4.out; rw [k4] at this; exact this
          have E8 : bits .and .u8 (h : Int) 8 = 8 := by have := a8.out; rw [k8] at this; exact this
          go_wp2_with (first | ((with_reducible apply own_index); exact rfl; exact rfl; exact rfl; exact (fun w => idx8 D j d hlt hd.out w); exact rfl) | ((with_reducible apply own_pput HM); exact rfl; exact rfl; exact rfl; exact oneU8; exact hlt; (first | with_reducible exact .z | with_reducible exact .s .z | with_reducible exact .s (.s .z) | with_reducible exact .s (.s (.s .z)) | with_reducible exact .s (.s (.s (.s .z)))); (first | with_reducible exact .z | with_reducible exact .s .z | with_reducible exact .s (.s .z) | with_reducible exact .s (.s (.s .z)) | with_reducible exact .s (.s (.s (.s .z)))); exact rfl; exact rfl; clear HM; intro w' HM) | ((with_reducible apply own_pputB HM); exact rfl; exact rfl; exact rfl; exact oneBool; exact rfl; exact hlt; (first | with_reducible exact .z | with_reducible exact .s .z | with_reducible exact .s (.s .z) | with_reducible exact .s (.s (.s .z)) | with_reducible exact .s (.s (.s (.s .z)))); (first | with_reducible exact .z | with_reducible exact .s .z | with_reducible exact .s (.s .z) | with_reducible exact .s (.s (.s .z)) | with_reducible exact .s (.s (.s (.s .z)))); exact rfl; exact rfl; clear HM; intro w' HM) | ((with_reducible apply own_get HM); exact rfl; exact rfl; exact oneU8; (first | with_reducible exact .z | with_reducible exact .s .z | with_reducible exact .s (.s .z) | with_reducible exact .s (.s (.s .z)) | with_reducible exact .s (.s (.s (.s .z)))); exact ((pcells_color _ _ _ hlt).trans (congrArg (fun z : Nat => some (Value.int .u8 (z : Int))) (if_pos rfl))); exact rfl))
          go_roundw
          case rel => exact ⟨j + 1, by omega, by go_num, by rw [step_c4 f D j d hd.out hfj, step_f g j (decide (0 < d)) hgj] at HM; exact HM⟩
          case measure => simp [intOf]; omega
        · have hfj : f j = d + 16 := by rw [hC.out, hd.out, k4]
          have hgj : g j = false := by rw [hF.out, hd.out, k8]; rfl
          have E4 : bits .and .u8 (h : Int) 4 = 4 := by have := a4.out; rw [k4] at this; exact this
          have E8 : bits .and .u8 (h : Int) 8 = 0 := by have := a8.out; rw [k8] at this; exact this
          go_wp2_with (first | ((with_reducible apply own_index); exact rfl; exact rfl; exact rfl; exact (fun w => idx8 D j d hlt hd.out w); exact rfl) | ((with_reducible apply own_pput HM); exact rfl; exact rfl; exact rfl; exact oneU8; exact hlt; (first | with_reducible exact .z | with_reducible exact .s .z | with_reducible exact .s (.s .z) | with_reducible exact .s (.s (.s .z)) | with_reducible exact .s (.s (.s (.s .z)))); (first | with_reducible exact .z | with_reducible exact .s .z | with_reducible exact .s (.s .z) | with_reducible exact .s (.s (.s .z)) | with_reducible exact .s (.s (.s (.s .z)))); exact rfl; exact rfl; clear HM; intro w' HM) | ((with_reducible apply own_pputB HM); exact rfl; exact rfl; exact rfl; exact oneBool; exact rfl; exact hlt; (first | with_reducible exact .z | with_reducible exact .s .z | with_reducible exact .s (.s .z) | with_reducible exact .s (.s (.s .z)) | with_reducible exact .s (.s (.s (.s .z)))); (first | with_reducible exact .z | with_reducible exact .s .z | with_reducible exact .s (.s .z) | with_reducible exact .s (.s (.s .z)) | with_reducible exact .s (.s (.s (.s .z)))); exact rfl; exact rfl; clear HM; intro w' HM) | ((with_reducible apply own_get HM); exact rfl; exact rfl; exact oneU8; (first | with_reducible exact .z | with_reducible exact .s .z | with_reducible exact .s (.s .z) | with_reducible exact .s (.s (.s .z)) | with_reducible exact .s (.s (.s (.s .z)))); exact ((pcells_color _ _ _ hlt).trans (congrArg (fun z : Nat => some (Value.int .u8 (z : Int))) (if_pos rfl))); exact rfl))
          go_roundw
          case rel => exact ⟨j + 1, by omega, by go_num, by rw [step_c4 f D j d hd.out hfj, step_f g j false hgj] at HM; exact HM⟩
          case measure => simp [intOf]; omega
        · have hfj : f j = d := by rw [hC.out, hd.out, k4]; simp
          have hgj : g j = decide (0 < d) := by rw [hF.out, hd.out, k8]; simp
          have E4 : bits .and .u8 (h : Int) 4 = 0 := by have := a4.out; rw [k4] at this; exact this
          have E8 : bits .and .u8 (h : Int) 8 = 8 := by have := a8.out; rw [k8] at this; exact this
          go_wp2_with (first | ((with_reducible apply own_index); exact rfl; exact rfl; exact rfl; exact (fun w => idx8 D j d hlt hd.out w); exact rfl) | ((with_reducible apply own_pput HM); exact rfl; exact rfl; exact rfl; exact oneU8; exact hlt; (first | with_reducible exact .z | with_reducible exact .s .z | with_reducible exact .s (.s .z) | with_reducible exact .s (.s (.s .z)) | with_reducible exact .s (.s (.s (.s .z)))); (first | with_reducible exact .z | with_reducible exact .s .z | with_reducible exact .s (.s .z) | with_reducible exact .s (.s (.s .z)) | with_reducible exact .s (.s (.s (.s .z)))); exact rfl; exact rfl; clear HM; intro w' HM) | ((with_reducible apply own_pputB HM); exact rfl; exact rfl; exact rfl; exact oneBool; exact rfl; exact hlt; (first | with_reducible exact .z | with_reducible exact .s .z | with_reducible exact .s (.s .z) | with_reducible exact .s (.s (.s .z)) | with_reducible exact .s (.s (.s (.s .z)))); (first | with_reducible exact .z | with_reducible exact .s .z | with_reducible exact .s (.s .z) | with_reducible exact .s (.s (.s .z)) | with_reducible exact .s (.s (.s (.s .z)))); exact rfl; exact rfl; clear HM; intro w' HM) | ((with_reducible apply own_get HM); exact rfl; exact rfl; exact oneU8; (first | with_reducible exact .z | with_reducible exact .s .z | with_reducible exact .s (.s .z) | with_reducible exact .s (.s (.s .z)) | with_reducible exact .s (.s (.s (.s .z)))); exact ((pcells_color _ _ _ hlt).trans (congrArg (fun z : Nat => some (Value.int .u8 (z : Int))) (if_pos rfl))); exact rfl))
          go_roundw
          case rel => exact ⟨j + 1, by omega, by go_num, by rw [step_c0 f D j d hd.out hfj, step_f g j (decide (0 < d)) hgj] at HM; exact HM⟩
          case measure => simp [intOf]; omega
        · have hfj : f j = d := by rw [hC.out, hd.out, k4]; rfl
          have hgj : g j = false := by rw [hF.out, hd.out, k8]; rfl
          have E4 : bits .and .u8 (h : Int) 4 = 0 := by have := a4.out; rw [k4] at this; exact this
          have E8 : bits .and .u8 (h : Int) 8 = 0 := by have := a8.out; rw [k8] at this; exact this
          go_wp2_with (first | ((with_reducible apply own_index); exact rfl; exact rfl; exact rfl; exact (fun w => idx8 D j d hlt hd.out w); exact rfl) | ((with_reducible apply own_pput HM); exact rfl; exact rfl; exact rfl; exact oneU8; exact hlt; (first | with_reducible exact .z | with_reducible exact .s .z | with_reducible exact .s (.s .z) | with_reducible exact .s (.s (.s .z)) | with_reducible exact .s (.s (.s (.s .z)))); (first | with_reducible exact .z | with_reducible exact .s .z | with_reducible exact .s (.s .z) | with_reducible exact .s (.s (.s .z)) | with_reducible exact .s (.s (.s (.s .z)))); exact rfl; exact rfl; clear HM; intro w' HM) | ((with_reducible apply own_pputB HM); exact rfl; exact rfl; exact rfl; exact oneBool; exact rfl; exact hlt; (first | with_reducible exact .z | with_reducible exact .s .z | with_reducible exact .s (.s .z) | with_reducible exact .s (.s (.s .z)) | with_reducible exact .s (.s (.s (.s .z)))); (first | with_reducible exact .z | with_reducible exact .s .z | with_reducible exact .s (.s .z) | with_reducible exact .s (.s (.s .z)) | with_reducible exact .s (.s (.s (.s .z)))); exact rfl; exact rfl; clear HM; intro w' HM) | ((with_reducible apply own_get HM); exact rfl; exact rfl; exact oneU8; (first | with_reducible exact .z | with_reducible exact .s .z | with_reducible exact .s (.s .z) | with_reducible exact .s (.s (.s .z)) | with_reducible exact .s (.s (.s (.s .z)))); exact ((pcells_color _ _ _ hlt).trans (congrArg (fun z : Nat => some (Value.int .u8 (z : Int))) (if_pos rfl))); exact rfl))
          go_roundw
          case rel => exact ⟨j + 1, by omega, by go_num, by rw [step_c0 f D j d hd.out hfj, step_f g j false hgj] at HM; exact HM⟩
          case measure => simp [intOf]; omega
      · obtain rfl : j = 8 := by omega
        go_wp2_with (first | ((with_reducible apply own_row HM); exact rfl; exact rfl; exact aggStrip; (first | with_reducible exact .z | with_reducible exact .s .z | with_reducible exact .s (.s .z) | with_reducible exact .s (.s (.s .z)) | with_reducible exact .s (.s (.s (.s .z)))); exact rfl; exact pcells_length _ _ _) | ((with_reducible apply own_lay HM); exact rfl; exact rfl; exact rfl; (first | with_reducible exact .z | with_reducible exact .s .z | with_reducible exact .s (.s .z) | with_reducible exact .s (.s (.s .z)) | with_reducible exact .s (.s (.s (.s .z)))); (first | with_reducible exact .z | with_reducible exact .s .z | with_reducible exact .s (.s .z) | with_reducible exact .s (.s (.s .z)) | with_reducible exact .s (.s (.s (.s .z)))); exact aggStrip.size; exact pcells_length _ _ _; exact pcells_length _ _ _; exact pcells_one _ _ _; exact rfl; exact rfl; clear HM; intro w' HM))
        have ee : pcells 8 (fun i => if i < 8 then f i else 0) (fun i => if i < 8 then g i else false) = pcells 8 f g := pcells_ext (fun i hi => if_pos hi) (fun i hi => if_pos hi)
        rw [ee] at HM
        refine bodyPost_ret (v := .agg (pcells 8 f g).toArray) (own_results HM Try.results32 _ rfl (by (first | with_reducible exact .z | with_reducible exact .s .z | with_reducible exact .s (.s .z) | with_reducible exact .s (.s (.s .z)) | with_reducible exact .s (.s (.s (.s .z))))) (by rw [pcells_length]; exact aggStrip)) rfl ⟨rfl, Own.fin HM⟩
  · have E2 : bits .and .u8 (h : Int) 2 = 2 := by have := a2.out; rw [k2] at this; exact this
    have E1 : bits .and .u8 (h : Int) 1 = 0 := by have := a1.out; rw [k1] at this; exact this
    have ER : Hid ((7 - (q7 : Int)) = ((baR h q : Nat) : Int)) := by show _ = _; have := hq7.out; unfold baR; rw [k2]; simp only [if_true]; omega
    have HR := Lib.hid fun (w' : World) hV' => row_any a n cap xs m q e (baR h q) (h % 2) (7 - (q7 : Int)) D he.out (by rw [hh.out]) (by rw [hh.out]) ER.out hD false (by rw [k1]; rfl) w' hV'
    go_enter Try.func32, Try.ntmps32
    go_wp2_with (first | ((with_reducible apply own_box HM); exact rfl; (conv => lhs; whnf); exact rfl; exact rfl; (first | (clear tg1 HM; intro w' g1 HM) | (clear tg2 HM; intro w' g2 HM) | (clear tg3 HM; intro w' g3 HM) | (clear tg4 HM; intro w' g4 HM) | (clear HM; intro w' g' HM))) | ((with_reducible apply own_alloc HM); exact rfl; (first | (with_reducible exact zeroStrip)); exact rfl; (first | (clear tg1 HM; intro w' g1 HM) | (clear tg2 HM; intro w' g2 HM) | (clear tg3 HM; intro w' g3 HM) | (clear tg4 HM; intro w' g4 HM) | (clear HM; intro w' g' HM))) | ((with_reducible apply own_cell HM); exact rfl; exact rfl; (first | (with_reducible exact one8)); exact sS; exact dS; exact rfl) | ((with_reducible apply own_load HM); exact rfl; exact rfl; (first | (with_reducible exact agg11)); exact sS; exact dS; exact tS; exact rfl) | ((with_reducible apply own_store HM); exact rfl; exact rfl; (conv => lhs; whnf); exact rfl; exact sS; exact vS; exact sS; (first | (with_reducible exact (agg11).size) | (with_reducible exact (one8).size)); exact rfl; exact rfl; exact rfl; exact rfl; clear HM; intro w' HM) | (go_at_call 45; (with_reducible refine (HE'.out _ (Lib.hid (HV.out.under (Own.fin HM)))).mono ?_); rintro e w' ⟨rfl, rfl⟩) | (go_at_call 46; (with_reducible refine (HR.out _ (HV.out.under (Own.fin HM))).mono ?_); rintro e w' ⟨rfl, hb⟩; replace HM := Lib.hid (HM.out.call hb); clear hb))
    clear E1 E2 HR HE' ER e_p e_q8 e_c8 e_q7
    go_loopw [45] (fun i wr => ∃ j : Nat, j ≤ 8 ∧ i = .int .i64 (j : Int) ∧ Hid (Own w wr [(g3, 73, pcells 8 (fun i => if i < j then f i else 0) (fun i => if i < j then g i else false)), (g2, 73, pcells 8 (fun _ => 0) (fun _ => false)), (g1, 27, [.int .u8 (r0 : Int), .int .u8 (r1 : Int), .int .u8 (r2 : Int), .int .u8 (r3 : Int), .int .u8 (r4 : Int), .int .u8 (r5 : Int), .int .u8 (r6 : Int), .int .u8 (r7 : Int), .int .u8 (r8 : Int), .int .u8 (r9 : Int), .int .u8 (r10 : Int)])])) (fun i _ => 8 - (intOf i).toNat)
    case atStart => exact ⟨0, by omega, rfl, by simpa using HM⟩
    case round =>
      clear HM
      obtain ⟨j, hj, rfl, HM⟩ := hrel
      by_cases hlt : j < 8
      · have hlt' : (j : Int) < 8 := by omega
        obtain ⟨d, hd⟩ : ∃ d : Nat, Hid (D j = d) := ⟨_, rfl⟩
        have d16 : (d : Int) < 16 := by have := hD16.out j; rw [hd.out] at this; omega
        have hz : ((d : Int) != 0) = decide (0 < d) := by
          rcases Nat.eq_zero_or_pos d with h0 | h0
          · subst h0; rfl
          · simp [h0]; omega
        rcases (show h / 4 % 2 = 1 ∨ h / 4 % 2 = 0 by omega) with k4 | k4 <;> rcases (show h / 8 = 1 ∨ h / 8 = 0 by have := H16.out; omega) with k8 | k8
        · have hfj : f j = d + 16 := by rw [hC.out, hd.out, k4]
          have hgj : g j = decide (0 < d) := by rw [hF.out, hd.out, k8]; simp
          have E4 : bits .and .u8 (h : Int) 4 = 4 := by have := a4.out; rw [k4] at this; exact this
          have E8 : bits .and .u8 (h : Int) 8 = 8 := by have := a8.out; rw [k8] at this; exact this
          go_wp2_with (first | ((with_reducible apply own_index); exact rfl; exact rfl; exact rfl; exact (fun w => idx8 D j d hlt hd.out w); exact rfl) | ((with_reducible apply own_pput HM); exact rfl; exact rfl; exact rfl; exact oneU8; exact hlt; (first | with_reducible exact .z | with_reducible exact .s .z | with_reducible exact .s (.s .z) | with_reducible exact .s (.s (.s .z)) | with_reducible exact .s (.s (.s (.s .z)))); (first | with_reducible exact .z | with_reducible exact .s .z | with_reducible exact .s (.s .z) | with_reducible exact .s (.s (.s .z)) | with_reducible exact .s (.s (.s (.s .z)))); exact rfl; exact rfl; clear HM; intro w' HM) | ((with_reducible apply own_pputB HM); exact rfl; exact rfl; exact rfl; exact oneBool; exact rfl; exact hlt; (first | with_reducible exact .z | with_reducible exact .s .z | with_reducible exact .s (.s .z) | with_reducible exact .s (.s (.s .z)) | with_reducible exact .s (.s (.s (.s .z)))); (first | with_reducible exact .z | with_reducible exact .s .z | with_reducible exact .s (.s .z) | with_reducible exact .s (.s (.s .z)) | with_reducible exact .s (.s (.s (.s .z)))); exact rfl; exact rfl; clear HM; intro w' HM) | ((with_reducible apply own_get HM); exact rfl; exact rfl; exact oneU8; (first | with_reducible exact .z | with_reducible exact .s .z | with_reducible exact .s (.s .z) | with_reducible exact .s (.s (.s .z)) | with_reducible exact .s (.s (.s (.s .z)))); exact ((pcells_color _ _ _ hlt).trans (congrArg (fun z : Nat => some (Value.int .u8 (z : Int))) (if_pos rfl))); exact rfl))
          go_roundw
          case rel => exact ⟨j + 1, by omega, by go_num, by rw [step_c4 f D j d hd.out hfj, step_f g j (decide (0 < d)) hgj] at HM; exact HM⟩
          case measure => simp [intOf]; omega
        · have hfj : f j = d + 16 := by rw [hC.out, hd.out, k4]
          have hgj : g j = false := by rw [hF.out, hd.out, k8]; rfl
          have E4 : bits .and .u8 (h : Int) 4 = 4 := by have := a4.out; rw [k4] at this; exact this
          have E8 : bits .and .u8 (h : Int) 8 = 0 := by have := a8.out; rw [k8] at this; exact this
          go_wp2_with (first | ((with_reducible apply own_index); exact rfl; exact rfl; exact rfl; exact (fun w => idx8 D j d hlt hd.out w); exact rfl) | ((with_reducible apply own_pput HM); exact rfl; exact rfl; exact rfl; exact oneU8; exact hlt; (first | with_reducible exact .z | with_reducible exact .s .z | with_reducible exact .s (.s .z) | with_reducible exact .s (.s (.s .z)) | with_reducible exact .s (.s (.s (.s .z)))); (first | with_reducible exact .z | with_reducible exact .s .z | with_reducible exact .s (.s .z) | with_reducible exact .s (.s (.s .z)) | with_reducible exact .s (.s (.s (.s .z)))); exact rfl; exact rfl; clear HM; intro w' HM) | ((with_reducible apply own_pputB HM); exact rfl; exact rfl; exact rfl; exact oneBool; exact rfl; exact hlt; (first | with_reducible exact .z | with_reducible exact .s .z | with_reducible exact .s (.s .z) | with_reducible exact .s (.s (.s .z)) | with_reducible exact .s (.s (.s (.s .z)))); (first | with_reducible exact .z | with_reducible exact .s .z | with_reducible exact .s (.s .z) | with_reducible exact .s (.s (.s .z)) | with_reducible exact .s (.s (.s (.s .z)))); exact rfl; exact rfl; clear HM; intro w' HM) | ((with_reducible apply own_get HM); exact rfl; exact rfl; exact oneU8; (first | with_reducible exact .z | with_reducible exact .s .z | with_reducible exact .s (.s .z) | with_reducible exact .s (.s (.s .z)) | with_reducible exact .s (.s (.s (.s .z)))); exact ((pcells_color _ _ _ hlt).trans (congrArg (fun z : Nat => some (Value.int .u8 (z : Int))) (if_pos rfl))); exact rfl))
          go_roundw
          case rel => exact ⟨j + 1, by omega, by go_num, by rw [step_c4 f D j d hd.out hfj, step_f g j false hgj] at HM; exact HM⟩
          case measure => simp [intOf]; omega
        · have hfj : f j = d := by rw [hC.out, hd.out, k4]; simp
          have hgj : g j = decide (0 < d) := by rw [hF.out, hd.out, k8]; simp
          have E4 : bits .and .u8 (h : Int) 4 = 0 := by have := a4.out; rw [k4] at this; exact this
          have E8 : bits .and .u8 (h : Int) 8 = 8 := by have := a8.out; rw [k8] at this; exact this
          go_wp2_with (first | ((with_reducible apply own_index); exact rfl; exact rfl; exact rfl; exact (fun w => idx8 D j d hlt hd.out w); exact rfl) | ((with_reducible apply own_pput HM); exact rfl; exact rfl; exact rfl; exact oneU8; exact hlt; (first | with_reducible exact .z | with_reducible exact .s .z | with_reducible exact .s (.s .z) | with_reducible exact .s (.s (.s .z)) | with_reducible exact .s (.s (.s (.s .z)))); (first | with_reducible exact .z | with_reducible exact .s .z | with_reducible exact .s (.s .z) | with_reducible exact .s (.s (.s .z)) | with_reducible exact .s (.s (.s (.s .z)))); exact rfl; exact rfl; clear HM; intro w' HM) | ((with_reducible apply own_pputB HM); exact rfl; exact rfl; exact rfl; exact oneBool; exact rfl; exact hlt; (first | with_reducible exact .z | with_reducible exact .s .z | with_reducible exact .s (.s .z) | with_reducible exact .s (.s (.s .z)) | with_reducible exact .s (.s (.s (.s .z)))); (first | with_reducible exact .z | with_reducible exact .s .z | with_reducible exact .s (.s .z) | with_reducible exact .s (.s (.s .z)) | with_reducible exact .s (.s (.s (.s .z)))); exact rfl; exact rfl; clear HM; intro w' HM) | ((with_reducible apply own_get HM); exact rfl; exact rfl; exact oneU8; (first | with_reducible exact .z | with_reducible exact .s .z | with_reducible exact .s (.s .z) | with_reducible exact .s (.s (.s .z)) | with_reducible exact .s (.s (.s (.s .z)))); exact ((pcells_color _ _ _ hlt).trans (congrArg (fun z : Nat => some (Value.int .u8 (z : Int))) (if_pos rfl))); exact rfl))
          go_roundw
          case rel => exact ⟨j + 1, by omega, by go_num, by rw [step_c0 f D j d hd.out hfj, step_f g j (decide (0 < d)) hgj] at HM; exact HM⟩
          case measure => simp [intOf]; omega
        · have hfj : f j = d := by rw [hC.out, hd.out, k4]; rfl
          have hgj : g j = false := by rw [hF.out, hd.out, k8]; rfl
          have E4 : bits .and .u8 (h : Int) 4 = 0 := by have := a4.out; rw [k4] at this; exact this
          have E8 : bits .and .u8 (h : Int) 8 = 0 := by have := a8.out; rw [k8] at this; exact this
          go_wp2_with (first | ((with_reducible apply own_index); exact rfl; exact rfl; exact rfl; exact (fun w => idx8 D j d hlt hd.out w); exact rfl) | ((with_reducible apply own_pput HM); exact rfl; exact rfl; exact rfl; exact oneU8; exact hlt; (first | with_reducible exact .z | with_reducible exact .s .z | with_reducible exact .s (.s .z) | with_reducible exact .s (.s (.s .z)) | with_reducible exact .s (.s (.s (.s .z)))); (first | with_reducible exact .z | with_reducible exact .s .z | with_reducible exact .s (.s .z) | with_reducible exact .s (.s (.s .z)) | with_reducible exact .s (.s (.s (.s .z)))); exact rfl; exact rfl; clear HM; intro w' HM) | ((with_reducible apply own_pputB HM); exact rfl; exact rfl; exact rfl; exact oneBool; exact rfl; exact hlt; (first | with_reducible exact .z | with_reducible exact .s .z | with_reducible exact .s (.s .z) | with_reducible exact .s (.s (.s .z)) | with_reducible exact .s (.s (.s (.s .z)))); (first | with_reducible exact .z | with_reducible exact .s .z | with_reducible exact .s (.s .z) | with_reducible exact .s (.s (.s .z)) | with_reducible exact .s (.s (.s (.s .z)))); exact rfl; exact rfl; clear HM; intro w' HM) | ((with_reducible apply own_get HM); exact rfl; exact rfl; exact oneU8; (first | with_reducible exact .z | with_reducible exact .s .z | with_reducible exact .s (.s .z) | with_reducible exact .s (.s (.s .z)) | with_reducible exact .s (.s (.s (.s .z)))); exact ((pcells_color _ _ _ hlt).trans (congrArg (fun z : Nat => some (Value.int .u8 (z : Int))) (if_pos rfl))); exact rfl))
          go_roundw
          case rel => exact ⟨j + 1, by omega, by go_num, by rw [step_c0 f D j d hd.out hfj, step_f g j false hgj] at HM; exact HM⟩
          case measure => simp [intOf]; omega
      · obtain rfl : j = 8 := by omega
        go_wp2_with (first | ((with_reducible apply own_row HM); exact rfl; exact rfl; exact aggStrip; (first | with_reducible exact .z | with_reducible exact .s .z | with_reducible exact .s (.s .z) | with_reducible exact .s (.s (.s .z)) | with_reducible exact .s (.s (.s (.s .z)))); exact rfl; exact pcells_length _ _ _) | ((with_reducible apply own_lay HM); exact rfl; exact rfl; exact rfl; (first | with_reducible exact .z | with_reducible exact .s .z | with_reducible exact .s (.s .z) | with_reducible exact .s (.s (.s .z)) | with_reducible exact .s (.s (.s (.s .z)))); (first | with_reducible exact .z | with_reducible exact .s .z | with_reducible exact .s (.s .z) | with_reducible exact .s (.s (.s .z)) | with_reducible exact .s (.s (.s (.s .z)))); exact aggStrip.size; exact pcells_length _ _ _; exact pcells_length _ _ _; exact pcells_one _ _ _; exact rfl; exact rfl; clear HM; intro w' HM))
        have ee : pcells 8 (fun i => if i < 8 then f i else 0) (fun i => if i < 8 then g i else false) = pcells 8 f g := pcells_ext (fun i hi => if_pos hi) (fun i hi => if_pos hi)
        rw [ee] at HM
        refine bodyPost_ret (v := .agg (pcells 8 f g).toArray) (own_results HM Try.results32 _ rfl (by (first | with_reducible exact .z | with_reducible exact .s .z | with_reducible exact .s (.s .z) | with_reducible exact .s (.s (.s .z)) | with_reducible exact .s (.s (.s (.s .z))))) (by rw [pcells_length]; exact aggStrip)) rfl ⟨rfl, Own.fin HM⟩
  · have E2 : bits .and .u8 (h : Int) 2 = 0 := by have := a2.out; rw [k2] at this; exact this
    have E1 : bits .and .u8 (h : Int) 1 = 1 := by have := a1.out; rw [k1] at this; exact this
    have ER : Hid ((q7 : Int) = ((baR h q : Nat) : Int)) := by show _ = _; have := hq7.out; unfold baR; rw [k2]; simp only [Nat.zero_ne_one, if_false]; omega
    have HR := Lib.hid fun (w' : World) hV' => row_any a n cap xs m q e (baR h q) (h % 2) (q7 : Int) D he.out (by rw [hh.out]) (by rw [hh.out]) ER.out hD true (by rw [k1]; rfl) w' hV'
    go_enter Try.func32, Try.ntmps32
    go_wp2_with (first | ((with_reducible apply own_box HM); exact rfl; (conv => lhs; whnf); exact rfl; exact rfl; (first | (clear tg1 HM; intro w' g1 HM) | (clear tg2 HM; intro w' g2 HM) | (clear tg3 HM; intro w' g3 HM) | (clear tg4 HM; intro w' g4 HM) | (clear HM; intro w' g' HM))) | ((with_reducible apply own_alloc HM); exact rfl; (first | (with_reducible exact zeroStrip)); exact rfl; (first | (clear tg1 HM; intro w' g1 HM) | (clear tg2 HM; intro w' g2 HM) | (clear tg3 HM; intro w' g3 HM) | (clear tg4 HM; intro w' g4 HM) | (clear HM; intro w' g' HM))) | ((with_reducible apply own_cell HM); exact rfl; exact rfl; (first | (with_reducible exact one8)); exact sS; exact dS; exact rfl) | ((with_reducible apply own_load HM); exact rfl; exact rfl; (first | (with_reducible exact agg11)); exact sS; exact dS; exact tS; exact rfl) | ((with_reducible apply own_store HM); exact rfl; exact rfl; (conv => lhs; whnf); exact rfl; exact sS; exact vS; exact sS; (first | (with_reducible exact (agg11).size) | (with_reducible exact (one8).size)); exact rfl; exact rfl; exact rfl; exact rfl; clear HM; intro w' HM) | (go_at_call 45; (with_reducible refine (HE'.out _ (Lib.hid (HV.out.under (Own.fin HM)))).mono ?_); rintro e w' ⟨rfl, rfl⟩) | (go_at_call 46; (with_reducible refine (HR.out _ (HV.out.under (Own.fin HM))).mono ?_); rintro e w' ⟨rfl, hb⟩; replace HM := Lib.hid (HM.out.call hb); clear hb))
    clear E1 E2 HR HE' ER e_p e_q8 e_c8 e_q7
    go_loopw [45] (fun i wr => ∃ j : Nat, j ≤ 8 ∧ i = .int .i64 (j : Int) ∧ Hid (Own w wr [(g3, 73, pcells 8 (fun i => if i < j then f i else 0) (fun i => if i < j then g i else false)), (g2, 73, pcells 8 (fun _ => 0) (fun _ => false)), (g1, 27, [.int .u8 (r0 : Int), .int .u8 (r1 : Int), .int .u8 (r2 : Int), .int .u8 (r3 : Int), .int .u8 (r4 : Int), .int .u8 (r5 : Int), .int .u8 (r6 : Int), .int .u8 (r7 : Int), .int .u8 (r8 : Int), .int .u8 (r9 : Int), .int .u8 (r10 : Int)])])) (fun i _ => 8 - (intOf i).toNat)
    case atStart => exact ⟨0, by omega, rfl, by simpa using HM⟩
    case round =>
      clear HM
      obtain ⟨j, hj, rfl, HM⟩ := hrel
      by_cases hlt : j < 8
      · have hlt' : (j : Int) < 8 := by omega
        obtain ⟨d, hd⟩ : ∃ d : Nat, Hid (D j = d) := ⟨_, rfl⟩
        have d16 : (d : Int) < 16 := by have := hD16.out j; rw [hd.out] at this; omega
        have hz : ((d : Int) != 0) = decide (0 < d) := by
          rcases Nat.eq_zero_or_pos d with h0 | h0
          · subst h0; rfl
          · simp [h0]; omega
        rcases (show h / 4 % 2 = 1 ∨ h / 4 % 2 = 0 by omega) with k4 | k4 <;> rcases (show h / 8 = 1 ∨ h / 8 = 0 by have := H16.out; omega) with k8 | k8
        · have hfj : f j = d + 16 := by rw [hC.out, hd.out, k4]
          have hgj : g j = decide (0 < d) := by rw [hF.out, hd.out, k8]; simp
          have E4 : bits .and .u8 (h : Int) 4 = 4 := by have := a4.out; rw [k4] at this; exact this
          have E8 : bits .and .u8 (h : Int) 8 = 8 := by have := a8.out; rw [k8] at this; exact this
          go_wp2_with (first | ((with_reducible apply own_index); exact rfl; exact rfl; exact rfl; exact (fun w => idx8 D j d hlt hd.out w); exact rfl) | ((with_reducible apply own_pput HM); exact rfl; exact rfl; exact rfl; exact oneU8; exact hlt; (first | with_reducible exact .z | with_reducible exact .s .z | with_reducible exact .s (.s .z) | with_reducible exact .s (.s (.s .z)) | with_reducible exact .s (.s (.s (.s .z)))); (first | with_reducible exact .z | with_reducible exact .s .z | with_reducible exact .s (.s .z) | with_reducible exact .s (.s (.s .z)) | with_reducible exact .s (.s (.s (.s .z)))); exact rfl; exact rfl; clear HM; intro w' HM) | ((with_reducible apply own_pputB HM); exact rfl; exact rfl; exact rfl; exact oneBool; exact rfl; exact hlt; (first | with_reducible exact .z | with_reducible exact .s .z | with_reducible exact .s (.s .z) | with_reducible exact .s (.s (.s .z)) | with_reducible exact .s (.s (.s (.s .z)))); (first | with_reducible exact .z | with_reducible exact .s .z | with_reducible exact .s (.s .z) | with_reducible exact .s (.s (.s .z)) | with_reducible exact .s (.s (.s (.s .z)))); exact rfl; exact rfl; clear HM; intro w' HM) | ((with_reducible apply own_get HM); exact rfl; exact rfl; exact oneU8; (first | with_reducible exact .z | with_reducible exact .s .z | with_reducible exact .s (.s .z) | with_reducible exact .s (.s (.s .z)) | with_reducible exact .s (.s (.s (.s .z)))); exact ((pcells_color _ _ _ hlt).trans (congrArg (fun z : Nat => some (Value.int .u8 (z : Int))) (if_pos rfl))); exact rfl))
          go_roundw
          case rel => exact ⟨j + 1, by omega, by go_num, by rw [step_c4 f D j d hd.out hfj, step_f g j (decide (0 < d)) hgj] at HM; exact HM⟩
          case measure => simp [intOf]; omega
        · have hfj : f j = d + 16 := by rw [hC.out, hd.out, k4]
          have hgj : g j = false := by rw [hF.out, hd.out, k8]; rfl
          have E4 : bits .and .u8 (h : Int) 4 = 4 := by have := a4.out; rw [k4] at this; exact this
          have E8 : bits .and .u8 (h : Int) 8 = 0 := by have := a8.out; rw [k8] at this; exact this
          go_wp2_with (first | ((with_reducible apply own_index); exact rfl; exact rfl; exact rfl; exact (fun w => idx8 D j d hlt hd.out w); exact rfl) | ((with_reducible apply own_pput HM); exact rfl; exact rfl; exact rfl; exact oneU8; exact hlt; (first | with_reducible exact .z | with_reducible exact .s .z | with_reducible exact .s (.s .z) | with_reducible exact .s (.s (.s .z)) | with_reducible exact .s (.s (.s (.s .z)))); (first | with_reducible exact .z | with_reducible exact .s .z | with_reducible exact .s (.s .z) | with_reducible exact .s (.s (.s .z)) | with_reducible exact .s (.s (.s (.s .z)))); exact rfl; exact rfl; clear HM; intro w' HM) | ((with_reducible apply own_pputB HM); exact rfl; exact rfl; exact rfl; exact oneBool; exact rfl; exact hlt; (first | with_reducible exact .z | with_reducible exact .s .z | with_reducible exact .s (.s .z) | with_reducible exact .s (.s (.s .z)) | with_reducible exact .s (.s (.s (.s .z)))); (first | with_reducible exact .z | with_reducible exact .s .z | with_reducible exact .s (.s .z) | with_reducible exact .s (.s (.s .z)) | with_reducible exact .s (.s (.s (.s .z)))); exact rfl; exact rfl; clear HM; intro w' HM) | ((with_reducible apply own_get HM); exact rfl; exact rfl; exact oneU8; (first | with_reducible exact .z | with_reducible exact .s .z | with_reducible exact .s (.s .z) | with_reducible exact .s (.s (.s .z)) | with_reducible exact .s (.s (.s (.s .z)))); exact ((pcells_color _ _ _ hlt).trans (congrArg (fun z : Nat => some (Value.int .u8 (z : Int))) (if_pos rfl))); exact rfl))
          go_roundw
          case rel => exact ⟨j + 1, by omega, by go_num, by rw [step_c4 f D j d hd.out hfj, step_f g j false hgj] at HM; exact HM⟩
          case measure => simp [intOf]; omega
        · have hfj : f j = d := by rw [hC.out, hd.out, k4]; simp
          have hgj : g j = decide (0 < d) := by rw [hF.out, hd.out, k8]; simp
          have E4 : bits .and .u8 (h : Int) 4 = 0 := by have := a4.out; rw [k4] at this; exact this
          have E8 : bits .and .u8 (h : Int) 8 = 8 := by have := a8.out; rw [k8] at this; exact this
          go_wp2_with (first | ((with_reducible apply own_index); exact rfl; exact rfl; exact rfl; exact (fun w => idx8 D j d hlt hd.out w); exact rfl) | ((with_reducible apply own_pput HM); exact rfl; exact rfl; exact rfl; exact oneU8; exact hlt; (first | with_reducible exact .z | with_reducible exact .s .z | with_reducible exact .s (.s .z) | with_reducible exact .s (.s (.s .z)) | with_reducible exact .s (.s (.s (.s .z)))); (first | with_reducible exact .z | with_reducible exact .s .z | with_reducible exact .s (.s .z) | with_reducible exact .s (.s (.s .z)) | with_reducible exact .s (.s (.s (.s .z)))); exact rfl; exact rfl; clear HM; intro w' HM) | ((with_reducible apply own_pputB HM); exact rfl; exact rfl; exact rfl; exact oneBool; exact rfl; exact hlt; (first | with_reducible exact .z | with_reducible exact .s .z | with_reducible exact .s (.s .z) | with_reducible exact .s (.s (.s .z)) | with_reducible exact .s (.s (.s (.s .z)))); (first | with_reducible exact .z | with_reducible exact .s .z | with_reducible exact .s (.s .z) | with_reducible exact .s (.s (.s .z)) | with_reducible exact .s (.s (.s (.s .z)))); exact rfl; exact rfl; clear HM; intro w' HM) | ((with_reducible apply own_get HM); exact rfl; exact rfl; exact oneU8; (first | with_reducible exact .z | with_reducible exact .s .z | with_reducible exact .s (.s .z) | with_reducible exact .s (.s (.s .z)) | with_reducible exact .s (.s (.s (.s .z)))); exact ((pcells_color _ _ _ hlt).trans (congrArg (fun z : Nat => some (Value.int .u8 (z : Int))) (if_pos rfl))); exact rfl))
          go_roundw
          case rel => exact ⟨j + 1, by omega, by go_num, by rw [step_c0 f D j d hd.out hfj, step_f g j (decide (0 < d)) hgj] at HM; exact HM⟩
          case measure => simp [intOf]; omega
        · have hfj : f j = d := by rw [hC.out, hd.out, k4]; rfl
          have hgj : g j = false := by rw [hF.out, hd.out, k8]; rfl
          have E4 : bits .and .u8 (h : Int) 4 = 0 := by have := a4.out; rw [k4] at this; exact this
          have E8 : bits .and .u8 (h : Int) 8 = 0 := by have := a8.out; rw [k8] at this; exact this
          go_wp2_with (first | ((with_reducible apply own_index); exact rfl; exact rfl; exact rfl; exact (fun w => idx8 D j d hlt hd.out w); exact rfl) | ((with_reducible apply own_pput HM); exact rfl; exact rfl; exact rfl; exact oneU8; exact hlt; (first | with_reducible exact .z | with_reducible exact .s .z | with_reducible exact .s (.s .z) | with_reducible exact .s (.s (.s .z)) | with_reducible exact .s (.s (.s (.s .z)))); (first | with_reducible exact .z | with_reducible exact .s .z | with_reducible exact .s (.s .z) | with_reducible exact .s (.s (.s .z)) | with_reducible exact .s (.s (.s (.s .z)))); exact rfl; exact rfl; clear HM; intro w' HM) | ((with_reducible apply own_pputB HM); exact rfl; exact rfl; exact rfl; exact oneBool; exact rfl; exact hlt; (first | with_reducible exact .z | with_reducible exact .s .z | with_reducible exact .s (.s .z) | with_reducible exact .s (.s (.s .z)) | with_reducible exact .s (.s (.s (.s .z)))); (first | with_reducible exact .z | with_reducible exact .s .z | with_reducible exact .s (.s .z) | with_reducible exact .s (.s (.s .z)) | with_reducible exact .s (.s (.s (.s .z)))); exact rfl; exact rfl; clear HM; intro w' HM) | ((with_reducible apply own_get HM); exact rfl; exact rfl; exact oneU8; (first | with_reducible exact .z | with_reducible exact .s .z | with_reducible exact .s (.s .z) | with_reducible exact .s (.s (.s .z)) | with_reducible exact .s (.s (.s (.s .z)))); exact ((pcells_color _ _ _ hlt).trans (congrArg (fun z : Nat => some (Value.int .u8 (z : Int))) (if_pos rfl))); exact rfl))
          go_roundw
          case rel => exact ⟨j + 1, by omega, by go_num, by rw [step_c0 f D j d hd.out hfj, step_f g j false hgj] at HM; exact HM⟩
          case measure => simp [intOf]; omega
      · obtain rfl : j = 8 := by omega
        go_wp2_with (first | ((with_reducible apply own_row HM); exact rfl; exact rfl; exact aggStrip; (first | with_reducible exact .z | with_reducible exact .s .z | with_reducible exact .s (.s .z) | with_reducible exact .s (.s (.s .z)) | with_reducible exact .s (.s (.s (.s .z)))); exact rfl; exact pcells_length _ _ _) | ((with_reducible apply own_lay HM); exact rfl; exact rfl; exact rfl; (first | with_reducible exact .z | with_reducible exact .s .z | with_reducible exact .s (.s .z) | with_reducible exact .s (.s (.s .z)) | with_reducible exact .s (.s (.s (.s .z)))); (first | with_reducible exact .z | with_reducible exact .s .z | with_reducible exact .s (.s .z) | with_reducible exact .s (.s (.s .z)) | with_reducible exact .s (.s (.s (.s .z)))); exact aggStrip.size; exact pcells_length _ _ _; exact pcells_length _ _ _; exact pcells_one _ _ _; exact rfl; exact rfl; clear HM; intro w' HM))
        have ee : pcells 8 (fun i => if i < 8 then f i else 0) (fun i => if i < 8 then g i else false) = pcells 8 f g := pcells_ext (fun i hi => if_pos hi) (fun i hi => if_pos hi)
        rw [ee] at HM
        refine bodyPost_ret (v := .agg (pcells 8 f g).toArray) (own_results HM Try.results32 _ rfl (by (first | with_reducible exact .z | with_reducible exact .s .z | with_reducible exact .s (.s .z) | with_reducible exact .s (.s (.s .z)) | with_reducible exact .s (.s (.s (.s .z))))) (by rw [pcells_length]; exact aggStrip)) rfl ⟨rfl, Own.fin HM⟩
  · have E2 : bits .and .u8 (h : Int) 2 = 0 := by have := a2.out; rw [k2] at this; exact this
    have E1 : bits .and .u8 (h : Int) 1 = 0 := by have := a1.out; rw [k1] at this; exact this
    have ER : Hid ((q7 : Int) = ((baR h q : Nat) : Int)) := by show _ = _; have := hq7.out; unfold baR; rw [k2]; simp only [Nat.zero_ne_one, if_false]; omega
    have HR := Lib.hid fun (w' : World) hV' => row_any a n cap xs m q e (baR h q) (h % 2) (q7 : Int) D he.out (by rw [hh.out]) (by rw [hh.out]) ER.out hD false (by rw [k1]; rfl) w' hV'
    go_enter Try.func32, Try.ntmps32
    go_wp2_with (first | ((with_reducible apply own_box HM); exact rfl; (conv => lhs; whnf); exact rfl; exact rfl; (first | (clear tg1 HM; intro w' g1 HM) | (clear tg2 HM; intro w' g2 HM) | (clear tg3 HM; intro w' g3 HM) | (clear tg4 HM; intro w' g4 HM) | (clear HM; intro w' g' HM))) | ((with_reducible apply own_alloc HM); exact rfl; (first | (with_reducible exact zeroStrip)); exact rfl; (first | (clear tg1 HM; intro w' g1 HM) | (clear tg2 HM; intro w' g2 HM) | (clear tg3 HM; intro w' g3 HM) | (clear tg4 HM; intro w' g4 HM) | (clear HM; intro w' g' HM))) | ((with_reducible apply own_cell HM); exact rfl; exact rfl; (first | (with_reducible exact one8)); exact sS; exact dS; exact rfl) | ((with_reducible apply own_load HM); exact rfl; exact rfl; (first | (with_reducible exact agg11)); exact sS; exact dS; exact tS; exact rfl) | ((with_reducible apply own_store HM); exact rfl; exact rfl; (conv => lhs; whnf); exact rfl; exact sS; exact vS; exact sS; (first | (with_reducible exact (agg11).size) | (with_reducible exact (one8).size)); exact rfl; exact rfl; exact rfl; exact rfl; clear HM; intro w' HM) | (go_at_call 45; (with_reducible refine (HE'.out _ (Lib.hid (HV.out.under (Own.fin HM)))).mono ?_); rintro e w' ⟨rfl, rfl⟩) | (go_at_call 46; (with_reducible refine (HR.out _ (HV.out.under (Own.fin HM))).mono ?_); rintro e w' ⟨rfl, hb⟩; replace HM := Lib.hid (HM.out.call hb); clear hb))
    clear E1 E2 HR HE' ER e_p e_q8 e_c8 e_q7
    go_loopw [45] (fun i wr => ∃ j : Nat, j ≤ 8 ∧ i = .int .i64 (j : Int) ∧ Hid (Own w wr [(g3, 73, pcells 8 (fun i => if i < j then f i else 0) (fun i => if i < j then g i else false)), (g2, 73, pcells 8 (fun _ => 0) (fun _ => false)), (g1, 27, [.int .u8 (r0 : Int), .int .u8 (r1 : Int), .int .u8 (r2 : Int), .int .u8 (r3 : Int), .int .u8 (r4 : Int), .int .u8 (r5 : Int), .int .u8 (r6 : Int), .int .u8 (r7 : Int), .int .u8 (r8 : Int), .int .u8 (r9 : Int), .int .u8 (r10 : Int)])])) (fun i _ => 8 - (intOf i).toNat)
    case atStart => exact ⟨0, by omega, rfl, by simpa using HM⟩
    case round =>
      clear HM
      obtain ⟨j, hj, rfl, HM⟩ := hrel
      by_cases hlt : j < 8
      · have hlt' : (j : Int) < 8 := by omega
        obtain ⟨d, hd⟩ : ∃ d : Nat, Hid (D j = d) := ⟨_, rfl⟩
        have d16 : (d : Int) < 16 := by have := hD16.out j; rw [hd.out] at this; omega
        have hz : ((d : Int) != 0) = decide (0 < d) := by
          rcases Nat.eq_zero_or_pos d with h0 | h0
          · subst h0; rfl
          · simp [h0]; omega
        rcases (show h / 4 % 2 = 1 ∨ h / 4 % 2 = 0 by omega) with k4 | k4 <;> rcases (show h / 8 = 1 ∨ h / 8 = 0 by have := H16.out; omega) with k8 | k8
        · have hfj : f j = d + 16 := by rw [hC.out, hd.out, k4]
          have hgj : g j = decide (0 < d) := by rw [hF.out, hd.out, k8]; simp
          have E4 : bits .and .u8 (h : Int) 4 = 4 := by have := a4.out; rw [k4] at this; exact this
          have E8 : bits .and .u8 (h : Int) 8 = 8 := by have := a8.out; rw [k8] at this; exact this
          go_wp2_with (first | ((with_reducible apply own_index); exact rfl; exact rfl; exact rfl; exact (fun w => idx8 D j d hlt hd.out w); exact rfl) | ((with_reducible apply own_pput HM); exact rfl; exact rfl; exact rfl; exact oneU8; exact hlt; (first | with_reducible exact .z | with_reducible exact .s .z | with_reducible exact .s (.s .z) | with_reducible exact .s (.s (.s .z)) | with_reducible exact .s (.s (.s (.s .z)))); (first | with_reducible exact .z | with_reducible exact .s .z | with_reducible exact .s (.s .z) | with_reducible exact .s (.s (.s .z)) | with_reducible exact .s (.s (.s (.s .z)))); exact rfl; exact rfl; clear HM; intro w' HM) | ((with_reducible apply own_pputB HM); exact rfl; exact rfl; exact rfl; exact oneBool; exact rfl; exact hlt; (first | with_reducible exact .z | with_reducible exact .s .z | with_reducible exact .s (.s .z) | with_reducible exact .s (.s (.s .z)) | with_reducible exact .s (.s (.s (.s .z)))); (first | with_reducible exact .z | with_reducible exact .s .z | with_reducible exact .s (.s .z) | with_reducible exact .s (.s (.s .z)) | with_reducible exact .s (.s (.s (.s .z)))); exact rfl; exact rfl; clear HM; intro w' HM) | ((with_reducible apply own_get HM); exact rfl; exact rfl; exact oneU8; (first | with_reducible exact .z | with_reducible exact .s .z | with_reducible exact .s (.s .z) | with_reducible exact .s (.s (.s .z)) | with_reducible exact .s (.s (.s (.s .z)))); exact ((pcells_color _ _ _ hlt).trans (congrArg (fun z : Nat => some (Value.int .u8 (z : Int))) (if_pos rfl))); exact rfl))
          go_roundw
          case rel => exact ⟨j + 1, by omega, by go_num, by rw [step_c4 f D j d hd.out hfj, step_f g j (decide (0 < d)) hgj] at HM; exact HM⟩
          case measure => simp [intOf]; omega
        · have hfj : f j = d + 16 := by rw [hC.out, hd.out, k4]
          have hgj : g j = false := by rw [hF.out, hd.out, k8]; rfl
          have E4 : bits .and .u8 (h : Int) 4 = 4 := by have := a4.out; rw [k4] at this; exact this
          have E8 : bits .and .u8 (h : Int) 8 = 0 := by have := a8.out; rw [k8] at this; exact this
          go_wp2_with (first | ((with_reducible apply own_index); exact rfl; exact rfl; exact rfl; exact (fun w => idx8 D j d hlt hd.out w); exact rfl) | ((with_reducible apply own_pput HM); exact rfl; exact rfl; exact rfl; exact oneU8; exact hlt; (first | with_reducible exact .z | with_reducible exact .s .z | with_reducible exact .s (.s .z) | with_reducible exact .s (.s (.s .z)) | with_reducible exact .s (.s (.s (.s .z)))); (first | with_reducible exact .z | with_reducible exact .s .z | with_reducible exact .s (.s .z) | with_reducible exact .s (.s (.s .z)) | with_reducible exact .s (.s (.s (.s .z)))); exact rfl; exact rfl; clear HM; intro w' HM) | ((with_reducible apply own_pputB HM); exact rfl; exact rfl; exact rfl; exact oneBool; exact rfl; exact hlt; (first | with_reducible exact .z | with_reducible exact .s .z | with_reducible exact .s (.s .z) | with_reducible exact .s (.s (.s .z)) | with_reducible exact .s (.s (.s (.s .z)))); (first | with_reducible exact .z | with_reducible exact .s .z | with_reducible exact .s (.s .z) | with_reducible exact .s (.s (.s .z)) | with_reducible exact .s (.s (.s (.s .z)))); exact rfl; exact rfl; clear HM; intro w' HM) | ((with_reducible apply own_get HM); exact rfl; exact rfl; exact oneU8; (first | with_reducible exact .z | with_reducible exact .s .z | with_reducible exact .s (.s .z) | with_reducible exact .s (.s (.s .z)) | with_reducible exact .s (.s (.s (.s .z)))); exact ((pcells_color _ _ _ hlt).trans (congrArg (fun z : Nat => some (Value.int .u8 (z : Int))) (if_pos rfl))); exact rfl))
          go_roundw
          case rel => exact ⟨j + 1, by omega, by go_num, by rw [step_c4 f D j d hd.out hfj, step_f g j false hgj] at HM; exact HM⟩
          case measure => simp [intOf]; omega
        · have hfj : f j = d := by rw [hC.out, hd.out, k4]; simp
          have hgj : g j = decide (0 < d) := by rw [hF.out, hd.out, k8]; simp
          have E4 : bits .and .u8 (h : Int) 4 = 0 := by have := a4.out; rw [k4] at this; exact this
          have E8 : bits .and .u8 (h : Int) 8 = 8 := by have := a8.out; rw [k8] at this; exact this
          go_wp2_with (first | ((with_reducible apply own_index); exact rfl; exact rfl; exact rfl; exact (fun w => idx8 D j d hlt hd.out w); exact rfl) | ((with_reducible apply own_pput HM); exact rfl; exact rfl; exact rfl; exact oneU8; exact hlt; (first | with_reducible exact .z | with_reducible exact .s .z | with_reducible exact .s (.s .z) | with_reducible exact .s (.s (.s .z)) | with_reducible exact .s (.s (.s (.s .z)))); (first | with_reducible exact .z | with_reducible exact .s .z | with_reducible exact .s (.s .z) | with_reducible exact .s (.s (.s .z)) | with_reducible exact .s (.s (.s (.s .z)))); exact rfl; exact rfl; clear HM; intro w' HM) | ((with_reducible apply own_pputB HM); exact rfl; exact rfl; exact rfl; exact oneBool; exact rfl; exact hlt; (first | with_reducible exact .z | with_reducible exact .s .z | with_reducible exact .s (.s .z) | with_reducible exact .s (.s (.s .z)) | with_reducible exact .s (.s (.s (.s .z)))); (first | with_reducible exact .z | with_reducible exact .s .z | with_reducible exact .s (.s .z) | with_reducible exact .s (.s (.s .z)) | with_reducible exact .s (.s (.s (.s .z)))); exact rfl; exact rfl; clear HM; intro w' HM) | ((with_reducible apply own_get HM); exact rfl; exact rfl; exact oneU8; (first | with_reducible exact .z | with_reducible exact .s .z | with_reducible exact .s (.s .z) | with_reducible exact .s (.s (.s .z)) | with_reducible exact .s (.s (.s (.s .z)))); exact ((pcells_color _ _ _ hlt).trans (congrArg (fun z : Nat => some (Value.int .u8 (z : Int))) (if_pos rfl))); exact rfl))
          go_roundw
          case rel => exact ⟨j + 1, by omega, by go_num, by rw [step_c0 f D j d hd.out hfj, step_f g j (decide (0 < d)) hgj] at HM; exact HM⟩
          case measure => simp [intOf]; omega
        · have hfj : f j = d := by rw [hC.out, hd.out, k4]; rfl
          have hgj : g j = false := by rw [hF.out, hd.out, k8]; rfl
          have E4 : bits .and .u8 (h : Int) 4 = 0 := by have := a4.out; rw [k4] at this; exact this
          have E8 : bits .and .u8 (h : Int) 8 = 0 := by have := a8.out; rw [k8] at this; exact this
          go_wp2_with (first | ((with_reducible apply own_index); exact rfl; exact rfl; exact rfl; exact (fun w => idx8 D j d hlt hd.out w); exact rfl) | ((with_reducible apply own_pput HM); exact rfl; exact rfl; exact rfl; exact oneU8; exact hlt; (first | with_reducible exact .z | with_reducible exact .s .z | with_reducible exact .s (.s .z) | with_reducible exact .s (.s (.s .z)) | with_reducible exact .s (.s (.s (.s .z)))); (first | with_reducible exact .z | with_reducible exact .s .z | with_reducible exact .s (.s .z) | with_reducible exact .s (.s (.s .z)) | with_reducible exact .s (.s (.s (.s .z)))); exact rfl; exact rfl; clear HM; intro w' HM) | ((with_reducible apply own_pputB HM); exact rfl; exact rfl; exact rfl; exact oneBool; exact rfl; exact hlt; (first | with_reducible exact .z | with_reducible exact .s .z | with_reducible exact .s (.s .z) | with_reducible exact .s (.s (.s .z)) | with_reducible exact .s (.s (.s (.s .z)))); (first | with_reducible exact .z | with_reducible exact .s .z | with_reducible exact .s (.s .z) | with_reducible exact .s (.s (.s .z)) | with_reducible exact .s (.s (.s (.s .z)))); exact rfl; exact rfl; clear HM; intro w' HM) | ((with_reducible apply own_get HM); exact rfl; exact rfl; exact oneU8; (first | with_reducible exact .z | with_reducible exact .s .z | with_reducible exact .s (.s .z) | with_reducible exact .s (.s (.s .z)) | with_reducible exact .s (.s (.s (.s .z)))); exact ((pcells_color _ _ _ hlt).trans (congrArg (fun z : Nat => some (Value.int .u8 (z : Int))) (if_pos rfl))); exact rfl))
          go_roundw
          case rel => exact ⟨j + 1, by omega, by go_num, by rw [step_c0 f D j d hd.out hfj, step_f g j false hgj] at HM; exact HM⟩
          case measure => simp [intOf]; omega
      · obtain rfl : j = 8 := by omega
        go_wp2_with (first | ((with_reducible apply own_row HM); exact rfl; exact rfl; exact aggStrip; (first | with_reducible exact .z | with_reducible exact .s .z | with_reducible exact .s (.s .z) | with_reducible exact .s (.s (.s .z)) | with_reducible exact .s (.s (.s (.s .z)))); exact rfl; exact pcells_length _ _ _) | ((with_reducible apply own_lay HM); exact rfl; exact rfl; exact rfl; (first | with_reducible exact .z | with_reducible exact .s .z | with_reducible exact .s (.s .z) | with_reducible exact .s (.s (.s .z)) | with_reducible exact .s (.s (.s (.s .z)))); (first | with_reducible exact .z | with_reducible exact .s .z | with_reducible exact .s (.s .z) | with_reducible exact .s (.s (.s .z)) | with_reducible exact .s (.s (.s (.s .z)))); exact aggStrip.size; exact pcells_length _ _ _; exact pcells_length _ _ _; exact pcells_one _ _ _; exact rfl; exact rfl; clear HM; intro w' HM))
        have ee : pcells 8 (fun i => if i < 8 then f i else 0) (fun i => if i < 8 then g i else false) = pcells 8 f g := pcells_ext (fun i hi => if_pos hi) (fun i hi => if_pos hi)
        rw [ee] at HM
        refine bodyPost_ret (v := .agg (pcells 8 f g).toArray) (own_results HM Try.results32 _ rfl (by (first | with_reducible exact .z | with_reducible exact .s .z | with_reducible exact .s (.s .z) | with_reducible exact .s (.s (.s .z)) | with_reducible exact .s (.s (.s (.s .z))))) (by rw [pcells_length]; exact aggStrip)) rfl ⟨rfl, Own.fin HM⟩
end Go.Proofs.Ytijjigacmmhloaa
