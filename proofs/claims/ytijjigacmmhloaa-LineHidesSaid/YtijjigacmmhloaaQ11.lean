import Derived.Test.YtijjigacmmhloaaQ10
namespace Go.Proofs.Ytijjigacmmhloaa
open Go.RowKit
theorem aggS3 : Agg Try.prog 32 3 := ⟨⟨_, Try.underlying32, rfl⟩, by kernel_rfl⟩
theorem oneTs : One Try.prog 30 := ⟨⟨_, Try.underlying30, rfl⟩, by kernel_rfl⟩
theorem own_old_at {P : Program} {W0 w : World} {l : List (Nat × TypeId × List Value)} {ops : Array Oper} {rest : List Oper} {o : Oper} {a : Act} {Q : Exit → Act → World → Prop} {ty : TypeId} {x : Operand} {g off off' : Nat} {v : Value} (HM : Hid (Own W0 w l)) (ho : o.op = .load ty x) (hx : a.eval x = .pointer (some ⟨g, off, none⟩)) (hty : One P ty)
    (hc : W0.cell? ⟨g, off', none⟩ = some v) (hoff : off = off') (hw : Region.wanted o (yielded ops a.tmps) = true) (h : wpList P ops Q rest (a.put o.dst v) w) : wpList P ops Q (o :: rest) a w := by
  subst hoff
  exact own_old HM ho hx hty hc rfl hw h
theorem Own.plus2 {W0 w w' : World} {l : List (Nat × TypeId × List Value)} {g g' : Nat} {t t' : TypeId} {cs cs' : List Value} (h : Own W0 w l) (hb : Below w.heap.size w w') (hg : w.heap.size ≤ g) (hW : Whole w' g t cs) (hg' : w.heap.size ≤ g') (hW' : Whole w' g' t' cs') (hne : g ≠ g') : Own W0 w' ((g, t, cs) :: (g', t', cs') :: l) := by
  have h1 := h.plus hb hg' hW'
  have h2 := h.plus hb hg hW
  refine ⟨h1.below, ?_, ?_⟩
  · intro e he
    rcases List.mem_cons.1 he with rfl | he
    · exact h2.whole _ (List.mem_cons_self ..)
    · exact h1.whole e he
  · refine .cons (fun e he => ?_) h1.apart
    rcases List.mem_cons.1 he with rfl | he
    · exact hne
    · exact (List.pairwise_cons.1 h2.apart).1 e he
set_option maxRecDepth 100000 in
set_option maxHeartbeats 12800000 in
theorem build_any (a1 a2 a3 : Option Addr) (n1 c1 n2 c2 n3 c3 : Nat) (sp : Nat → Nat → Nat) (tl cl : Nat → Nat) (r0 r1 r2 r3 r4 r5 r6 r7 r8 r9 r10 b : Nat) (b5 : r5 < 256) (hb : Hid (spBase r5 = b)) (w : World) (h1 : TriRow w a1 n1 sp) (h2 : ByteRow w a2 n2 tl) (h3 : ByteRow w a3 n3 cl) (l1 : n1 ≤ 64) (l2 : n2 ≤ 300) (l3 : n3 ≤ 100) :
    Calls Try.prog 12 #[.agg #[.slice a1 n1 c1, .slice a2 n2 c2, .slice a3 n3 c3], regsV r0 r1 r2 r3 r4 r5 r6 r7 r8 r9 r10] w fun e w' => ∃ g g' ys zs, e = .returned (.tuple #[.slice (some ⟨g, 0, none⟩) 16384 16384, .slice (some ⟨g', 0, none⟩) 32 32]) ∧ w.heap.size ≤ g ∧ w.heap.size ≤ g' ∧ g' ≠ g ∧ Whole w' g 5 (b8 16384 ys) ∧ Whole w' g' 5 (b8 32 zs) ∧ Hid ((∀ i, ys i < 256) ∧ (∀ i, zs i < 256) ∧ (n1 = 0 → ys b = 208)) ∧ Below w.heap.size w w' := by
  have HM := Lib.hid (Own.start w)
  have tg1 : Hid True := trivial
  have tg2 : Hid True := trivial
  have hmk16384 := Lib.hid (made_bytes 16384 (by decide))
  have hmk32 := Lib.hid (made_bytes 32 (by decide))
  have HL1 := Lib.hid l1
  have H2L := Lib.hid l2
  have H3L := Lib.hid l3
  have H5 := Lib.hid b5
  have H1 := Lib.hid h1
  have H2 := Lib.hid h2
  have H3 := Lib.hid h3
  have hb1 : (b : Int) ≤ 16128 := by have := spBase_le r5; rw [hb.out] at this; omega
  have n64 : (n1 : Int) ≤ 64 := by omega
  clear h1 h2 h3 l1 l2 l3 b5
  go_enter Try.func12, Try.ntmps12
  go_upto_region 3 with (first | ((with_reducible apply own_box HM); exact rfl; (conv => lhs; whnf); exact rfl; exact rfl; (first | (clear tg1 HM; intro w' g1 HM) | (clear tg2 HM; intro w' g2 HM) | (clear tg3 HM; intro w' g3 HM) | (clear tg4 HM; intro w' g4 HM) | (clear HM; intro w' g' HM))) | ((with_reducible apply own_cell HM); exact rfl; exact rfl; (first | (with_reducible exact oneInt) | (with_reducible exact oneBool) | (with_reducible exact oneU8) | (with_reducible exact oneBs) | (with_reducible exact oneTs)); exact sS; exact dS; exact rfl) | ((with_reducible apply own_load HM); exact rfl; exact rfl; (first | (with_reducible exact aggS3) | (with_reducible exact agg11)); exact sS; exact dS; exact tS; exact rfl) | ((with_reducible apply own_store HM); exact rfl; exact rfl; (conv => lhs; whnf); exact rfl; exact sS; exact vS; exact sS; (first | (with_reducible exact (aggS3).size) | (with_reducible exact (agg11).size) | (with_reducible exact (oneInt).size) | (with_reducible exact (oneBool).size) | (with_reducible exact (oneU8).size) | (with_reducible exact (oneBs).size) | (with_reducible exact (oneTs).size)); exact rfl; exact rfl; exact rfl; exact rfl; clear HM; intro w' HM) | ((with_reducible apply own_makes (cs := b8 16384 (fun _ => 0)) (e := 5) (n := 16384) HM); exact rfl; exact rfl; exact rfl; exact hmk16384.out; exact rfl; clear HM; intro w' g3 HM))
  clear hmk16384
  go_loopw [15] (fun i wr => ∃ (j : Nat) (ys : Nat → Nat), j ≤ 16384 ∧ i = .int .i64 (j : Int) ∧ Hid (∀ i, ys i < 256) ∧ Hid (Own w wr [(g3, 5, b8 16384 ys), (g2, 27, [.int .u8 (r0 : Int), .int .u8 (r1 : Int), .int .u8 (r2 : Int), .int .u8 (r3 : Int), .int .u8 (r4 : Int), .int .u8 (r5 : Int), .int .u8 (r6 : Int), .int .u8 (r7 : Int), .int .u8 (r8 : Int), .int .u8 (r9 : Int), .int .u8 (r10 : Int)]), (g1, 32, [.slice a1 n1 c1, .slice a2 n2 c2, .slice a3 n3 c3])])) (fun i _ => 16384 - (intOf i).toNat)
  case atStart => exact ⟨0, fun _ => 0, by omega, rfl, Lib.hid (fun _ => by show 0 < 256; decide), HM⟩
  case round =>
    clear HM
    obtain ⟨j, ys, hj, rfl, HY, HM⟩ := hrel
    by_cases hlt : j < 16384
    · have hlt' : (j : Int) < 16384 := by omega
      have HJ := Lib.hid hlt
      by_cases hn : n2 = 0
      · subst hn
        go_wp2_with (first | ((with_reducible apply own_box HM); exact rfl; (conv => lhs; whnf); exact rfl; exact rfl; (first | (clear tg1 HM; intro w' g1 HM) | (clear tg2 HM; intro w' g2 HM) | (clear tg3 HM; intro w' g3 HM) | (clear tg4 HM; intro w' g4 HM) | (clear HM; intro w' g' HM))) | ((with_reducible apply own_cell HM); exact rfl; exact rfl; (first | (with_reducible exact oneInt) | (with_reducible exact oneBool) | (with_reducible exact oneU8) | (with_reducible exact oneBs) | (with_reducible exact oneTs)); exact sS; exact dS; exact rfl) | ((with_reducible apply own_load HM); exact rfl; exact rfl; (first | (with_reducible exact aggS3) | (with_reducible exact agg11)); exact sS; exact dS; exact tS; exact rfl) | ((with_reducible apply own_store HM); exact rfl; exact rfl; (conv => lhs; whnf); exact rfl; exact sS; exact vS; exact sS; (first | (with_reducible exact (aggS3).size) | (with_reducible exact (agg11).size) | (with_reducible exact (oneInt).size) | (with_reducible exact (oneBool).size) | (with_reducible exact (oneU8).size) | (with_reducible exact (oneBs).size) | (with_reducible exact (oneTs).size)); exact rfl; exact rfl; exact rfl; exact rfl; clear HM; intro w' HM))
        go_roundw
        case rel => exact ⟨j + 1, ys, by have := HJ.out; omega, by go_num, HY, HM⟩
        case measure => have := HJ.out; simp [intOf]; omega
      · obtain ⟨r, hr⟩ : ∃ r, j % n2 = r := ⟨_, rfl⟩
        have hr1 : r < n2 := by rw [← hr]; exact Nat.mod_lt _ (by omega)
        obtain ⟨gt, ob, ha, hg, hc⟩ := H2.out (by omega)
        subst ha
        have hcr := (hc r hr1).1
        obtain ⟨v, hv⟩ : ∃ v, tl r = v := ⟨_, rfl⟩
        have v8 : v < 256 := by rw [← hv]; exact (hc r hr1).2
        rw [hv] at hcr
        have HCR := Lib.hid hcr
        obtain ⟨z, hz⟩ : ∃ z : Nat, j / 251 % 256 = z := ⟨_, rfl⟩
        have z8 : z < 256 := by omega
        have Z2 : IntKind.u8.wrap ((j : Int) / 251) = (z : Int) := by rw [IntKind.wrap_u8]; omega
        obtain ⟨u, hu⟩ : ∃ u : Nat, Nat.xor v z = u := ⟨_, rfl⟩
        have u8' : u < 256 := by rw [← hu]; exact Nat.xor_lt_two_pow (n := 8) v8 z8
        have Z3 : bits .xor .u8 (v : Int) (z : Int) = (u : Int) := by
          rw [show (u : Int) = ((Nat.xor v z : Nat) : Int) by rw [hu]]
          exact u8_xor_nat v z v8 z8
        clear hz hu
        have U8H := Lib.hid u8'
        have N1 : 0 < (n2 : Int) := by omega
        have N2 : (n2 : Int) ≤ 300 := by have := H2L.out; omega
        have N3 : ¬ (n2 : Int) = 0 := by omega
        have R1 : (r : Int) < (n2 : Int) := by omega
        have R2 : (j : Int).tmod (n2 : Int) = (r : Int) := by rw [Int.tmod_eq_emod_of_nonneg (by omega), ← hr]; exact (Int.natCast_emod j n2).symm
        clear hcr hc hr hr1 hv hn hlt hj u8'
        go_upto_region 6 with (first | ((with_reducible apply own_box HM); exact rfl; (conv => lhs; whnf); exact rfl; exact rfl; (first | (clear tg1 HM; intro w' g1 HM) | (clear tg2 HM; intro w' g2 HM) | (clear tg3 HM; intro w' g3 HM) | (clear tg4 HM; intro w' g4 HM) | (clear HM; intro w' g' HM))) | ((with_reducible apply own_cell HM); exact rfl; exact rfl; (first | (with_reducible exact oneInt) | (with_reducible exact oneBool) | (with_reducible exact oneU8) | (with_reducible exact oneBs) | (with_reducible exact oneTs)); exact sS; exact dS; exact rfl) | ((with_reducible apply own_load HM); exact rfl; exact rfl; (first | (with_reducible exact aggS3) | (with_reducible exact agg11)); exact sS; exact dS; exact tS; exact rfl) | ((with_reducible apply own_store HM); exact rfl; exact rfl; (conv => lhs; whnf); exact rfl; exact sS; exact vS; exact sS; (first | (with_reducible exact (aggS3).size) | (with_reducible exact (agg11).size) | (with_reducible exact (oneInt).size) | (with_reducible exact (oneBool).size) | (with_reducible exact (oneU8).size) | (with_reducible exact (oneBs).size) | (with_reducible exact (oneTs).size)); exact rfl; exact rfl; exact rfl; exact rfl; clear HM; intro w' HM))
        (refine own_tail 16 HM (by kernel_rfl) (by kernel_rfl) (by kernel_rfl) ?_; simp only [List.take_succ_cons, List.take_zero, List.drop_succ_cons, List.drop_zero]; (try simp only [Act.put, List.setIfInBounds_toArray, List.set_cons_zero, List.set_cons_succ]); repeat ((fail_if_success (with_reducible refine wpQuiet_nil ?_)); first | go_big_quiet_skip | (go_big_quiet_want; first | ((with_reducible apply quiet_load); exact rfl; (first | (with_reducible exact aggS3)); exact sS; exact dS; exact tS; go_big_quiet_op; go_big_quiet_on) | ((with_reducible apply quiet_cell); exact rfl; (first | (with_reducible exact oneInt) | (with_reducible exact oneU8) | (with_reducible exact oneBool) | (with_reducible exact oneBs)); exact sS; exact dS; go_big_quiet_op; go_big_quiet_on) | ((with_reducible apply quiet_old); exact rfl; (first | (with_reducible exact oneInt) | (with_reducible exact oneU8) | (with_reducible exact oneBool) | (with_reducible exact oneU16) | (with_reducible exact oneStr)); (first | exact HCR.out); exact rfl; go_big_quiet_op; go_big_quiet_on) | (go_big_quiet_op; go_big_quiet_on) | (go_big_quiet_op; refine ⟨_, fun _ _ => rfl, ?_⟩; go_big_quiet_on))))
        refine wpQuiet_nil ?_
        intro w' HM'
        clear HM; have HM := HM'; clear HM'
        go_wp2_with (first | ((with_reducible apply own_b8s (v := u) HM); exact rfl; exact rfl; exact rfl; (first | with_reducible exact .z | with_reducible exact .s .z | with_reducible exact .s (.s .z) | with_reducible exact .s (.s (.s .z))); (first | with_reducible exact .z | with_reducible exact .s .z | with_reducible exact .s (.s .z) | with_reducible exact .s (.s (.s .z))); exact oneU8; exact HJ.out; exact rfl; exact rfl; clear HM; intro w' HM))
        go_roundw
        case rel => exact ⟨j + 1, _, by have := HJ.out; omega, by go_num, Lib.hid (upd_lt HY.out j U8H.out), HM⟩
        case measure => have := HJ.out; simp [intOf]; omega
    · obtain rfl : j = 16384 := by omega
      clear hlt hj
      go_upto_region 10 with (first | ((with_reducible apply own_box HM); exact rfl; (conv => lhs; whnf); exact rfl; exact rfl; (first | (clear tg1 HM; intro w' g1 HM) | (clear tg2 HM; intro w' g2 HM) | (clear tg3 HM; intro w' g3 HM) | (clear tg4 HM; intro w' g4 HM) | (clear HM; intro w' g' HM))) | ((with_reducible apply own_cell HM); exact rfl; exact rfl; (first | (with_reducible exact oneInt) | (with_reducible exact oneBool) | (with_reducible exact oneU8) | (with_reducible exact oneBs) | (with_reducible exact oneTs)); exact sS; exact dS; exact rfl) | ((with_reducible apply own_load HM); exact rfl; exact rfl; (first | (with_reducible exact aggS3) | (with_reducible exact agg11)); exact sS; exact dS; exact tS; exact rfl) | ((with_reducible apply own_store HM); exact rfl; exact rfl; (conv => lhs; whnf); exact rfl; exact sS; exact vS; exact sS; (first | (with_reducible exact (aggS3).size) | (with_reducible exact (agg11).size) | (with_reducible exact (oneInt).size) | (with_reducible exact (oneBool).size) | (with_reducible exact (oneU8).size) | (with_reducible exact (oneBs).size) | (with_reducible exact (oneTs).size)); exact rfl; exact rfl; exact rfl; exact rfl; clear HM; intro w' HM) | (go_at_call 23; (with_reducible refine (rbase_at r0 r1 r2 r3 r4 r5 r6 r7 r8 r9 r10 H5.out b hb _).mono ?_); rintro e w' ⟨rfl, hb⟩; replace HM := Lib.hid (HM.out.call hb); clear hb))
      go_loopw [9] (fun i wr => ∃ (k : Nat) (ys : Nat → Nat), k ≤ 65 ∧ k ≤ n1 + 1 ∧ i = .int .i64 (k : Int) ∧ Hid ((∀ i, ys i < 256) ∧ (n1 = 0 → 0 < k → ys b = 208)) ∧ Hid (Own w wr [(g3, 5, b8 16384 ys), (g2, 27, [.int .u8 (r0 : Int), .int .u8 (r1 : Int), .int .u8 (r2 : Int), .int .u8 (r3 : Int), .int .u8 (r4 : Int), .int .u8 (r5 : Int), .int .u8 (r6 : Int), .int .u8 (r7 : Int), .int .u8 (r8 : Int), .int .u8 (r9 : Int), .int .u8 (r10 : Int)]), (g1, 32, [.slice a1 n1 c1, .slice a2 n2 c2, .slice a3 n3 c3])])) (fun i _ => 66 - (intOf i).toNat)
      case atStart => exact ⟨0, ys, by omega, by omega, rfl, Lib.hid ⟨HY.out, fun _ h => by omega⟩, HM⟩
      case round =>
        clear HM HY
        obtain ⟨k, ys, hk, hk2, rfl, HY, HM⟩ := hrel
        by_cases go : k ≤ n1 ∧ k < 64
        · obtain ⟨g1', g2'⟩ := go
          have K1 : ((k : Int) ≤ (n1 : Int)) = True := eq_true (by omega)
          have K2 : ((k : Int) < 64) = True := eq_true (by omega)
          have K1n : (k ≤ n1) = True := eq_true g1'
          have k64 : (k : Int) < 64 := by omega
          have HK := Lib.hid (And.intro g1' g2')
          obtain ⟨p0, hp0⟩ : ∃ p, (b + k) % 16384 = p := ⟨_, rfl⟩
          obtain ⟨p1, hp1⟩ : ∃ p, (b + 128 + 2 * k) % 16384 = p := ⟨_, rfl⟩
          obtain ⟨p2, hp2⟩ : ∃ p, (b + 129 + 2 * k) % 16384 = p := ⟨_, rfl⟩
          have P0 : ((b : Int) + (k : Int)).tmod 16384 = (p0 : Int) := by rw [Int.tmod_eq_emod_of_nonneg (by omega)]; omega
          have P1 : ((b : Int) + 128 + 2 * (k : Int)).tmod 16384 = (p1 : Int) := by rw [Int.tmod_eq_emod_of_nonneg (by omega)]; omega
          have P2 : ((b : Int) + 129 + 2 * (k : Int)).tmod 16384 = (p2 : Int) := by rw [Int.tmod_eq_emod_of_nonneg (by omega)]; omega
          have q0 : (p0 : Int) < 16384 := by omega
          have q1 : (p1 : Int) < 16384 := by omega
          have q2 : (p2 : Int) < 16384 := by omega
          have HQ0 : Hid (p0 < 16384) := Lib.hid (by omega)
          have HQ1 : Hid (p1 < 16384) := Lib.hid (by omega)
          have HQ2 : Hid (p2 < 16384) := Lib.hid (by omega)
          have HP0 : Hid (n1 = 0 → p0 = b) := Lib.hid (fun h => by omega)
          clear hp0 hp1 hp2 hk hk2
          by_cases hlt : k < n1
          · have hlt' : (k : Int) < (n1 : Int) := by omega
            have HKN := Lib.hid hlt
            obtain ⟨gs, os, ha, hg, hc⟩ := H1.out (by omega)
            subst ha
            obtain ⟨v0, hv0⟩ : ∃ v, sp k 0 = v := ⟨_, rfl⟩
            obtain ⟨v1, hv1⟩ : ∃ v, sp k 1 = v := ⟨_, rfl⟩
            obtain ⟨v2, hv2⟩ : ∃ v, sp k 2 = v := ⟨_, rfl⟩
            have c0 := (hc k hlt 0 (by decide)).1
            have c1 := (hc k hlt 1 (by decide)).1
            have c2 := (hc k hlt 2 (by decide)).1
            have d0 := (hc k hlt 0 (by decide)).2
            have d1 := (hc k hlt 1 (by decide)).2
            have d2 := (hc k hlt 2 (by decide)).2
            rw [hv0] at c0 d0
            rw [hv1] at c1 d1
            rw [hv2] at c2 d2
            have HC0 := Lib.hid c0
            have HC1 := Lib.hid c1
            have HC2 := Lib.hid c2
            have HD := Lib.hid (And.intro d0 (And.intro d1 d2))
            clear c0 c1 c2 d0 d1 d2 hv0 hv1 hv2 hc hlt hg g1' g2'
            go_upto_region 10 with (first | ((with_reducible apply own_box HM); exact rfl; (conv => lhs; whnf); exact rfl; exact rfl; (first | (clear tg1 HM; intro w' g1 HM) | (clear tg2 HM; intro w' g2 HM) | (clear tg3 HM; intro w' g3 HM) | (clear tg4 HM; intro w' g4 HM) | (clear HM; intro w' g' HM))) | ((with_reducible apply own_cell HM); exact rfl; exact rfl; (first | (with_reducible exact oneInt) | (with_reducible exact oneBool) | (with_reducible exact oneU8) | (with_reducible exact oneBs) | (with_reducible exact oneTs)); exact sS; exact dS; exact rfl) | ((with_reducible apply own_load HM); exact rfl; exact rfl; (first | (with_reducible exact aggS3) | (with_reducible exact agg11)); exact sS; exact dS; exact tS; exact rfl) | ((with_reducible apply own_store HM); exact rfl; exact rfl; (conv => lhs; whnf); exact rfl; exact sS; exact vS; exact sS; (first | (with_reducible exact (aggS3).size) | (with_reducible exact (agg11).size) | (with_reducible exact (oneInt).size) | (with_reducible exact (oneBool).size) | (with_reducible exact (oneU8).size) | (with_reducible exact (oneBs).size) | (with_reducible exact (oneTs).size)); exact rfl; exact rfl; exact rfl; exact rfl; clear HM; intro w' HM))
            (refine own_inorder HM ?_; (try simp only [Act.put, List.setIfInBounds_toArray, List.set_cons_zero, List.set_cons_succ]); repeat ((fail_if_success (with_reducible refine wpQuiet_nil ?_)); first | go_big_quiet_skip | (go_big_quiet_want; first | ((with_reducible apply quiet_load); exact rfl; (first | (with_reducible exact aggS3)); exact sS; exact dS; exact tS; go_big_quiet_op; go_big_quiet_on) | ((with_reducible apply quiet_cell); exact rfl; (first | (with_reducible exact oneTs)); exact sS; exact dS; go_big_quiet_op; go_big_quiet_on) | (go_big_quiet_op; go_big_quiet_on) | (go_big_quiet_op; go_big_quiet_on) | (go_big_quiet_op; refine ⟨_, fun _ _ => rfl, ?_⟩; go_big_quiet_on))))
            refine wpQuiet_nil ?_
            intro w' HM'
            clear HM; have HM := HM'; clear HM'
            clear K1 K2 K1n
            go_wp2_with (first | ((with_reducible apply own_old_at HM); exact rfl; exact rfl; (with_reducible exact oneU8); exact HC0.out; (first | exact rfl | (focus omega) | (focus (simp; done)) | (focus (simp; omega))); exact rfl) | ((with_reducible apply own_old_at HM); exact rfl; exact rfl; (with_reducible exact oneU8); exact HC1.out; (first | exact rfl | (focus omega) | (focus (simp; done)) | (focus (simp; omega))); exact rfl) | ((with_reducible apply own_old_at HM); exact rfl; exact rfl; (with_reducible exact oneU8); exact HC2.out; (first | exact rfl | (focus omega) | (focus (simp; done)) | (focus (simp; omega))); exact rfl) | ((with_reducible apply own_b8s (v := 208) HM); exact rfl; exact rfl; exact rfl; (first | with_reducible exact .z | with_reducible exact .s .z | with_reducible exact .s (.s .z) | with_reducible exact .s (.s (.s .z))); (first | with_reducible exact .z | with_reducible exact .s .z | with_reducible exact .s (.s .z) | with_reducible exact .s (.s (.s .z))); exact oneU8; exact HQ0.out; exact rfl; exact rfl; clear HM; intro w' HM) | ((with_reducible apply own_b8s (v := v0) HM); exact rfl; exact rfl; exact rfl; (first | with_reducible exact .z | with_reducible exact .s .z | with_reducible exact .s (.s .z) | with_reducible exact .s (.s (.s .z))); (first | with_reducible exact .z | with_reducible exact .s .z | with_reducible exact .s (.s .z) | with_reducible exact .s (.s (.s .z))); exact oneU8; exact HQ0.out; exact rfl; exact rfl; clear HM; intro w' HM) | ((with_reducible apply own_b8s (v := v1) HM); exact rfl; exact rfl; exact rfl; (first | with_reducible exact .z | with_reducible exact .s .z | with_reducible exact .s (.s .z) | with_reducible exact .s (.s (.s .z))); (first | with_reducible exact .z | with_reducible exact .s .z | with_reducible exact .s (.s .z) | with_reducible exact .s (.s (.s .z))); exact oneU8; exact HQ1.out; exact rfl; exact rfl; clear HM; intro w' HM) | ((with_reducible apply own_b8s (v := v2) HM); exact rfl; exact rfl; exact rfl; (first | with_reducible exact .z | with_reducible exact .s .z | with_reducible exact .s (.s .z) | with_reducible exact .s (.s (.s .z))); (first | with_reducible exact .z | with_reducible exact .s .z | with_reducible exact .s (.s .z) | with_reducible exact .s (.s (.s .z))); exact oneU8; exact HQ2.out; exact rfl; exact rfl; clear HM; intro w' HM) | ((with_reducible apply own_box HM); exact rfl; (conv => lhs; whnf); exact rfl; exact rfl; (first | (clear tg1 HM; intro w' g1 HM) | (clear tg2 HM; intro w' g2 HM) | (clear tg3 HM; intro w' g3 HM) | (clear tg4 HM; intro w' g4 HM) | (clear HM; intro w' g' HM))) | ((with_reducible apply own_cell HM); exact rfl; exact rfl; (first | (with_reducible exact oneInt) | (with_reducible exact oneBool) | (with_reducible exact oneU8) | (with_reducible exact oneBs) | (with_reducible exact oneTs)); exact sS; exact dS; exact rfl) | ((with_reducible apply own_load HM); exact rfl; exact rfl; (first | (with_reducible exact aggS3) | (with_reducible exact agg11)); exact sS; exact dS; exact tS; exact rfl) | ((with_reducible apply own_store HM); exact rfl; exact rfl; (conv => lhs; whnf); exact rfl; exact sS; exact vS; exact sS; (first | (with_reducible exact (aggS3).size) | (with_reducible exact (agg11).size) | (with_reducible exact (oneInt).size) | (with_reducible exact (oneBool).size) | (with_reducible exact (oneU8).size) | (with_reducible exact (oneBs).size) | (with_reducible exact (oneTs).size)); exact rfl; exact rfl; exact rfl; exact rfl; clear HM; intro w' HM))
            go_roundw
            case rel => exact ⟨k + 1, _, by have := HK.out; omega, by have := HK.out; omega, by go_num, Lib.hid ⟨upd_lt (upd_lt (upd_lt (upd_lt HY.out.1 p0 (by decide)) p0 HD.out.1) p1 HD.out.2.1) p2 HD.out.2.2, fun h => absurd HKN.out (by omega)⟩, HM⟩
            case measure => have := HK.out; simp [intOf]; omega
          · have hge : ¬ (k : Int) < (n1 : Int) := by omega
            have HKN : Hid (k = n1) := Lib.hid (by omega)
            clear hlt g1' g2'
            go_upto_region 10 with (first | ((with_reducible apply own_box HM); exact rfl; (conv => lhs; whnf); exact rfl; exact rfl; (first | (clear tg1 HM; intro w' g1 HM) | (clear tg2 HM; intro w' g2 HM) | (clear tg3 HM; intro w' g3 HM) | (clear tg4 HM; intro w' g4 HM) | (clear HM; intro w' g' HM))) | ((with_reducible apply own_cell HM); exact rfl; exact rfl; (first | (with_reducible exact oneInt) | (with_reducible exact oneBool) | (with_reducible exact oneU8) | (with_reducible exact oneBs) | (with_reducible exact oneTs)); exact sS; exact dS; exact rfl) | ((with_reducible apply own_load HM); exact rfl; exact rfl; (first | (with_reducible exact aggS3) | (with_reducible exact agg11)); exact sS; exact dS; exact tS; exact rfl) | ((with_reducible apply own_store HM); exact rfl; exact rfl; (conv => lhs; whnf); exact rfl; exact sS; exact vS; exact sS; (first | (with_reducible exact (aggS3).size) | (with_reducible exact (agg11).size) | (with_reducible exact (oneInt).size) | (with_reducible exact (oneBool).size) | (with_reducible exact (oneU8).size) | (with_reducible exact (oneBs).size) | (with_reducible exact (oneTs).size)); exact rfl; exact rfl; exact rfl; exact rfl; clear HM; intro w' HM))
            (refine own_inorder HM ?_; (try simp only [Act.put, List.setIfInBounds_toArray, List.set_cons_zero, List.set_cons_succ]); repeat ((fail_if_success (with_reducible refine wpQuiet_nil ?_)); first | go_big_quiet_skip | (go_big_quiet_want; first | ((with_reducible apply quiet_load); exact rfl; (first | (with_reducible exact aggS3)); exact sS; exact dS; exact tS; go_big_quiet_op; go_big_quiet_on) | ((with_reducible apply quiet_cell); exact rfl; (first | (with_reducible exact oneTs)); exact sS; exact dS; go_big_quiet_op; go_big_quiet_on) | (go_big_quiet_op; go_big_quiet_on) | (go_big_quiet_op; go_big_quiet_on) | (go_big_quiet_op; refine ⟨_, fun _ _ => rfl, ?_⟩; go_big_quiet_on))))
            refine wpQuiet_nil ?_
            intro w' HM'
            clear HM; have HM := HM'; clear HM'
            clear K1 K2 K1n
            go_wp2_with (first | ((with_reducible apply own_b8s (v := 208) HM); exact rfl; exact rfl; exact rfl; (first | with_reducible exact .z | with_reducible exact .s .z | with_reducible exact .s (.s .z) | with_reducible exact .s (.s (.s .z))); (first | with_reducible exact .z | with_reducible exact .s .z | with_reducible exact .s (.s .z) | with_reducible exact .s (.s (.s .z))); exact oneU8; exact HQ0.out; exact rfl; exact rfl; clear HM; intro w' HM) | ((with_reducible apply own_box HM); exact rfl; (conv => lhs; whnf); exact rfl; exact rfl; (first | (clear tg1 HM; intro w' g1 HM) | (clear tg2 HM; intro w' g2 HM) | (clear tg3 HM; intro w' g3 HM) | (clear tg4 HM; intro w' g4 HM) | (clear HM; intro w' g' HM))) | ((with_reducible apply own_cell HM); exact rfl; exact rfl; (first | (with_reducible exact oneInt) | (with_reducible exact oneBool) | (with_reducible exact oneU8) | (with_reducible exact oneBs) | (with_reducible exact oneTs)); exact sS; exact dS; exact rfl) | ((with_reducible apply own_load HM); exact rfl; exact rfl; (first | (with_reducible exact aggS3) | (with_reducible exact agg11)); exact sS; exact dS; exact tS; exact rfl) | ((with_reducible apply own_store HM); exact rfl; exact rfl; (conv => lhs; whnf); exact rfl; exact sS; exact vS; exact sS; (first | (with_reducible exact (aggS3).size) | (with_reducible exact (agg11).size) | (with_reducible exact (oneInt).size) | (with_reducible exact (oneBool).size) | (with_reducible exact (oneU8).size) | (with_reducible exact (oneBs).size) | (with_reducible exact (oneTs).size)); exact rfl; exact rfl; exact rfl; exact rfl; clear HM; intro w' HM))
            go_roundw
            case rel =>
              refine ⟨k + 1, _, by have := HK.out; omega, by have := HK.out; omega, by go_num, Lib.hid ⟨upd_lt HY.out.1 p0 (by decide), fun h _ => ?_⟩, HM⟩
              rw [HP0.out h]
              unfold upd
              rw [if_pos rfl]
            case measure => have := HK.out; simp [intOf]; omega
        · have HK0 : Hid (0 < k) := Lib.hid (by omega)
          have HN : Hid ((∀ i, ys i < 256) ∧ (n1 = 0 → ys b = 208)) := Lib.hid ⟨HY.out.1, fun h => HY.out.2 h HK0.out⟩
          have stop : ((k : Int) ≤ (n1 : Int)) = False ∨ (((k : Int) ≤ (n1 : Int)) = True ∧ ((k : Int) < 64) = False) := by
            by_cases c : k ≤ n1
            · exact .inr ⟨eq_true (by omega), eq_false (by omega)⟩
            · exact .inl (eq_false (by omega))
          have stopn : (k ≤ n1) = False ∨ (k ≤ n1) = True := by
            by_cases c : k ≤ n1
            · exact .inr (eq_true c)
            · exact .inl (eq_false c)
          clear HY go hk hk2 HK0
          rcases stop with K1 | ⟨K1, K2⟩
          all_goals
            go_upto_region 10 with (first | ((with_reducible apply own_box HM); exact rfl; (conv => lhs; whnf); exact rfl; exact rfl; (first | (clear tg1 HM; intro w' g1 HM) | (clear tg2 HM; intro w' g2 HM) | (clear tg3 HM; intro w' g3 HM) | (clear tg4 HM; intro w' g4 HM) | (clear HM; intro w' g' HM))) | ((with_reducible apply own_cell HM); exact rfl; exact rfl; (first | (with_reducible exact oneInt) | (with_reducible exact oneBool) | (with_reducible exact oneU8) | (with_reducible exact oneBs) | (with_reducible exact oneTs)); exact sS; exact dS; exact rfl) | ((with_reducible apply own_load HM); exact rfl; exact rfl; (first | (with_reducible exact aggS3) | (with_reducible exact agg11)); exact sS; exact dS; exact tS; exact rfl) | ((with_reducible apply own_store HM); exact rfl; exact rfl; (conv => lhs; whnf); exact rfl; exact sS; exact vS; exact sS; (first | (with_reducible exact (aggS3).size) | (with_reducible exact (agg11).size) | (with_reducible exact (oneInt).size) | (with_reducible exact (oneBool).size) | (with_reducible exact (oneU8).size) | (with_reducible exact (oneBs).size) | (with_reducible exact (oneTs).size)); exact rfl; exact rfl; exact rfl; exact rfl; clear HM; intro w' HM))
            (refine own_inorder HM ?_; (try simp only [Act.put, List.setIfInBounds_toArray, List.set_cons_zero, List.set_cons_succ]); repeat ((fail_if_success (with_reducible refine wpQuiet_nil ?_)); first | go_big_quiet_skip | (go_big_quiet_want; first | ((with_reducible apply quiet_load); exact rfl; (first | (with_reducible exact aggS3)); exact sS; exact dS; exact tS; go_big_quiet_op; go_big_quiet_on) | ((with_reducible apply quiet_cell); exact rfl; (first | (with_reducible exact oneTs)); exact sS; exact dS; go_big_quiet_op; go_big_quiet_on) | (go_big_quiet_op; go_big_quiet_on) | (go_big_quiet_op; go_big_quiet_on) | (go_big_quiet_op; refine ⟨_, fun _ _ => rfl, ?_⟩; go_big_quiet_on))))
            refine wpQuiet_nil ?_
            intro w' HM'
            clear HM; have HM := HM'; clear HM'
            go_upto_region 19 with (first | ((with_reducible apply own_box HM); exact rfl; (conv => lhs; whnf); exact rfl; exact rfl; (first | (clear tg1 HM; intro w' g1 HM) | (clear tg2 HM; intro w' g2 HM) | (clear tg3 HM; intro w' g3 HM) | (clear tg4 HM; intro w' g4 HM) | (clear HM; intro w' g' HM))) | ((with_reducible apply own_cell HM); exact rfl; exact rfl; (first | (with_reducible exact oneInt) | (with_reducible exact oneBool) | (with_reducible exact oneU8) | (with_reducible exact oneBs) | (with_reducible exact oneTs)); exact sS; exact dS; exact rfl) | ((with_reducible apply own_load HM); exact rfl; exact rfl; (first | (with_reducible exact aggS3) | (with_reducible exact agg11)); exact sS; exact dS; exact tS; exact rfl) | ((with_reducible apply own_store HM); exact rfl; exact rfl; (conv => lhs; whnf); exact rfl; exact sS; exact vS; exact sS; (first | (with_reducible exact (aggS3).size) | (with_reducible exact (agg11).size) | (with_reducible exact (oneInt).size) | (with_reducible exact (oneBool).size) | (with_reducible exact (oneU8).size) | (with_reducible exact (oneBs).size) | (with_reducible exact (oneTs).size)); exact rfl; exact rfl; exact rfl; exact rfl; clear HM; intro w' HM) | ((with_reducible apply own_makes (cs := b8 32 (fun _ => 0)) (e := 5) (n := 32) HM); exact rfl; exact rfl; exact rfl; exact hmk32.out; exact rfl; clear HM; intro w' g4 HM))
            go_loopw [106] (fun i wr => ∃ (j : Nat) (zs : Nat → Nat), j ≤ 32 ∧ i = .int .i64 (j : Int) ∧ Hid (∀ i, zs i < 256) ∧ Hid (Own w wr [(g4, 5, b8 32 zs), (g3, 5, b8 16384 ys), (g2, 27, [.int .u8 (r0 : Int), .int .u8 (r1 : Int), .int .u8 (r2 : Int), .int .u8 (r3 : Int), .int .u8 (r4 : Int), .int .u8 (r5 : Int), .int .u8 (r6 : Int), .int .u8 (r7 : Int), .int .u8 (r8 : Int), .int .u8 (r9 : Int), .int .u8 (r10 : Int)]), (g1, 32, [.slice a1 n1 c1, .slice a2 n2 c2, .slice a3 n3 c3])])) (fun i _ => 32 - (intOf i).toNat)
            case atStart => exact ⟨0, fun _ => 0, by omega, rfl, Lib.hid (fun _ => by show 0 < 256; decide), HM⟩
            case round =>
              clear HM
              obtain ⟨j, zs, hj, rfl, HZ, HM⟩ := hrel
              by_cases hlt : j < 32
              · have hlt' : (j : Int) < 32 := by omega
                have HJ := Lib.hid hlt
                by_cases hn : n3 = 0
                · subst hn
                  go_wp2_with (first | ((with_reducible apply own_box HM); exact rfl; (conv => lhs; whnf); exact rfl; exact rfl; (first | (clear tg1 HM; intro w' g1 HM) | (clear tg2 HM; intro w' g2 HM) | (clear tg3 HM; intro w' g3 HM) | (clear tg4 HM; intro w' g4 HM) | (clear HM; intro w' g' HM))) | ((with_reducible apply own_cell HM); exact rfl; exact rfl; (first | (with_reducible exact oneInt) | (with_reducible exact oneBool) | (with_reducible exact oneU8) | (with_reducible exact oneBs) | (with_reducible exact oneTs)); exact sS; exact dS; exact rfl) | ((with_reducible apply own_load HM); exact rfl; exact rfl; (first | (with_reducible exact aggS3) | (with_reducible exact agg11)); exact sS; exact dS; exact tS; exact rfl) | ((with_reducible apply own_store HM); exact rfl; exact rfl; (conv => lhs; whnf); exact rfl; exact sS; exact vS; exact sS; (first | (with_reducible exact (aggS3).size) | (with_reducible exact (agg11).size) | (with_reducible exact (oneInt).size) | (with_reducible exact (oneBool).size) | (with_reducible exact (oneU8).size) | (with_reducible exact (oneBs).size) | (with_reducible exact (oneTs).size)); exact rfl; exact rfl; exact rfl; exact rfl; clear HM; intro w' HM))
                  go_roundw
                  case rel => exact ⟨j + 1, zs, by have := HJ.out; omega, by go_num, HZ, HM⟩
                  case measure => have := HJ.out; simp [intOf]; omega
                · obtain ⟨r, hr⟩ : ∃ r, j % n3 = r := ⟨_, rfl⟩
                  have hr1 : r < n3 := by rw [← hr]; exact Nat.mod_lt _ (by omega)
                  obtain ⟨gt, ob, ha, hg, hc⟩ := H3.out (by omega)
                  subst ha
                  have hcr := (hc r hr1).1
                  obtain ⟨v, hv⟩ : ∃ v, cl r = v := ⟨_, rfl⟩
                  have v8 : v < 256 := by rw [← hv]; exact (hc r hr1).2
                  rw [hv] at hcr
                  have HCR := Lib.hid hcr
                  have Z2 : IntKind.u8.wrap (j : Int) = (j : Int) := by rw [IntKind.wrap_u8]; omega
                  obtain ⟨u, hu⟩ : ∃ u : Nat, (v + j) % 256 = u := ⟨_, rfl⟩
                  have u8' : u < 256 := by omega
                  have Z3 : IntKind.u8.wrap ((v : Int) + (j : Int)) = (u : Int) := by rw [IntKind.wrap_u8]; omega
                  have Z4 : ((v : Int) + (j : Int)) % 256 = (u : Int) := by omega
                  clear hu
                  have U8H := Lib.hid u8'
                  have N1 : 0 < (n3 : Int) := by omega
                  have N2 : (n3 : Int) ≤ 100 := by have := H3L.out; omega
                  have N3 : ¬ (n3 : Int) = 0 := by omega
                  have R1 : (r : Int) < (n3 : Int) := by omega
                  have R2 : (j : Int).tmod (n3 : Int) = (r : Int) := by rw [Int.tmod_eq_emod_of_nonneg (by omega), ← hr]; exact (Int.natCast_emod j n3).symm
                  clear hcr hc hr hr1 hv hn hlt hj u8'
                  go_upto_region 22 with (first | ((with_reducible apply own_box HM); exact rfl; (conv => lhs; whnf); exact rfl; exact rfl; (first | (clear tg1 HM; intro w' g1 HM) | (clear tg2 HM; intro w' g2 HM) | (clear tg3 HM; intro w' g3 HM) | (clear tg4 HM; intro w' g4 HM) | (clear HM; intro w' g' HM))) | ((with_reducible apply own_cell HM); exact rfl; exact rfl; (first | (with_reducible exact oneInt) | (with_reducible exact oneBool) | (with_reducible exact oneU8) | (with_reducible exact oneBs) | (with_reducible exact oneTs)); exact sS; exact dS; exact rfl) | ((with_reducible apply own_load HM); exact rfl; exact rfl; (first | (with_reducible exact aggS3) | (with_reducible exact agg11)); exact sS; exact dS; exact tS; exact rfl) | ((with_reducible apply own_store HM); exact rfl; exact rfl; (conv => lhs; whnf); exact rfl; exact sS; exact vS; exact sS; (first | (with_reducible exact (aggS3).size) | (with_reducible exact (agg11).size) | (with_reducible exact (oneInt).size) | (with_reducible exact (oneBool).size) | (with_reducible exact (oneU8).size) | (with_reducible exact (oneBs).size) | (with_reducible exact (oneTs).size)); exact rfl; exact rfl; exact rfl; exact rfl; clear HM; intro w' HM))
                  (refine own_tail 15 HM (by kernel_rfl) (by kernel_rfl) (by kernel_rfl) ?_; simp only [List.take_succ_cons, List.take_zero, List.drop_succ_cons, List.drop_zero]; (try simp only [Act.put, List.setIfInBounds_toArray, List.set_cons_zero, List.set_cons_succ]); repeat ((fail_if_success (with_reducible refine wpQuiet_nil ?_)); first | go_big_quiet_skip | (go_big_quiet_want; first | ((with_reducible apply quiet_load); exact rfl; (first | (with_reducible exact aggS3)); exact sS; exact dS; exact tS; go_big_quiet_op; go_big_quiet_on) | ((with_reducible apply quiet_cell); exact rfl; (first | (with_reducible exact oneInt) | (with_reducible exact oneU8) | (with_reducible exact oneBool) | (with_reducible exact oneBs)); exact sS; exact dS; go_big_quiet_op; go_big_quiet_on) | ((with_reducible apply quiet_old); exact rfl; (first | (with_reducible exact oneInt) | (with_reducible exact oneU8) | (with_reducible exact oneBool) | (with_reducible exact oneU16) | (with_reducible exact oneStr)); (first | exact HCR.out); exact rfl; go_big_quiet_op; go_big_quiet_on) | (go_big_quiet_op; go_big_quiet_on) | (go_big_quiet_op; refine ⟨_, fun _ _ => rfl, ?_⟩; go_big_quiet_on))))
                  refine wpQuiet_nil ?_
                  intro w' HM'
                  clear HM; have HM := HM'; clear HM'
                  go_wp2_with (first | ((with_reducible apply own_b8s (v := u) HM); exact rfl; exact rfl; exact rfl; (first | with_reducible exact .z | with_reducible exact .s .z | with_reducible exact .s (.s .z) | with_reducible exact .s (.s (.s .z))); (first | with_reducible exact .z | with_reducible exact .s .z | with_reducible exact .s (.s .z) | with_reducible exact .s (.s (.s .z))); exact oneU8; exact HJ.out; exact rfl; exact rfl; clear HM; intro w' HM))
                  go_roundw
                  case rel => exact ⟨j + 1, _, by have := HJ.out; omega, by go_num, Lib.hid (upd_lt HZ.out j U8H.out), HM⟩
                  case measure => have := HJ.out; simp [intOf]; omega
              · obtain rfl : j = 32 := by omega
                go_wp2_with (first | ((with_reducible apply own_box HM); exact rfl; (conv => lhs; whnf); exact rfl; exact rfl; (first | (clear tg1 HM; intro w' g1 HM) | (clear tg2 HM; intro w' g2 HM) | (clear tg3 HM; intro w' g3 HM) | (clear tg4 HM; intro w' g4 HM) | (clear HM; intro w' g' HM))) | ((with_reducible apply own_cell HM); exact rfl; exact rfl; (first | (with_reducible exact oneInt) | (with_reducible exact oneBool) | (with_reducible exact oneU8) | (with_reducible exact oneBs) | (with_reducible exact oneTs)); exact sS; exact dS; exact rfl) | ((with_reducible apply own_load HM); exact rfl; exact rfl; (first | (with_reducible exact aggS3) | (with_reducible exact agg11)); exact sS; exact dS; exact tS; exact rfl) | ((with_reducible apply own_store HM); exact rfl; exact rfl; (conv => lhs; whnf); exact rfl; exact sS; exact vS; exact sS; (first | (with_reducible exact (aggS3).size) | (with_reducible exact (agg11).size) | (with_reducible exact (oneInt).size) | (with_reducible exact (oneBool).size) | (with_reducible exact (oneU8).size) | (with_reducible exact (oneBs).size) | (with_reducible exact (oneTs).size)); exact rfl; exact rfl; exact rfl; exact rfl; clear HM; intro w' HM))
                go_ret2
                have e3 := HM.out.whole (g3, 5, b8 16384 ys) (by simp)
                have e4 := HM.out.whole (g4, 5, b8 32 zs) (by simp)
                have hne : g4 ≠ g3 := (List.pairwise_cons.1 HM.out.apart).1 _ (List.mem_cons_self ..)
                exact ⟨g3, g4, ys, zs, rfl, e3.1, e4.1, hne, e3.2, e4.2, Lib.hid ⟨HN.out.1, HZ.out, HN.out.2⟩, Own.fin HM⟩
theorem zero11 : Zero Try.prog 27 [.int .u8 0, .int .u8 0, .int .u8 0, .int .u8 0, .int .u8 0, .int .u8 0, .int .u8 0, .int .u8 0, .int .u8 0, .int .u8 0, .int .u8 0] := ⟨.agg #[.int .u8 0, .int .u8 0, .int .u8 0, .int .u8 0, .int .u8 0, .int .u8 0, .int .u8 0, .int .u8 0, .int .u8 0, .int .u8 0, .int .u8 0], fun _ => by kernel_rfl, rfl⟩
set_option maxHeartbeats 800000 in
theorem great_0 (a1 a2 a3 : Option Addr) (n1 c1 n2 c2 n3 c3 : Nat) (w : World) (l1 : 64 < n1) : Calls Try.prog 11 #[.agg #[.slice a1 n1 c1, .slice a2 n2 c2, .slice a3 n3 c3]] w fun e w' => e = .returned (.bool true) ∧ Below w.heap.size w w' := by
  have HM := Lib.hid (Own.start w)
  have tg1 : Hid True := trivial
  have K1 : ((64 : Int) < (n1 : Int)) = True := eq_true (by omega)
  clear l1
  go_enter Try.func11, Try.ntmps11
  go_upto_region 1 with (first | ((with_reducible apply own_box HM); exact rfl; (conv => lhs; whnf); exact rfl; exact rfl; (first | (clear tg1 HM; intro w' g1 HM) | (clear tg2 HM; intro w' g2 HM) | (clear tg3 HM; intro w' g3 HM) | (clear tg4 HM; intro w' g4 HM) | (clear HM; intro w' g' HM))) | ((with_reducible apply own_cell HM); exact rfl; exact rfl; (first | (with_reducible exact oneInt) | (with_reducible exact oneBool) | (with_reducible exact oneU8) | (with_reducible exact oneBs) | (with_reducible exact oneTs)); exact sS; exact dS; exact rfl) | ((with_reducible apply own_load HM); exact rfl; exact rfl; (first | (with_reducible exact aggS3) | (with_reducible exact agg11)); exact sS; exact dS; exact tS; exact rfl) | ((with_reducible apply own_store HM); exact rfl; exact rfl; (conv => lhs; whnf); exact rfl; exact sS; exact vS; exact sS; (first | (with_reducible exact (aggS3).size) | (with_reducible exact (agg11).size) | (with_reducible exact (oneInt).size) | (with_reducible exact (oneBool).size) | (with_reducible exact (oneU8).size) | (with_reducible exact (oneBs).size) | (with_reducible exact (oneTs).size)); exact rfl; exact rfl; exact rfl; exact rfl; clear HM; intro w' HM))
  (refine own_inorder HM ?_; (try simp only [Act.put, List.setIfInBounds_toArray, List.set_cons_zero, List.set_cons_succ]); repeat ((fail_if_success (with_reducible refine wpQuiet_nil ?_)); first | go_big_quiet_skip | (go_big_quiet_want; first | ((with_reducible apply quiet_load); exact rfl; (first | (with_reducible exact aggS3)); exact sS; exact dS; exact tS; go_big_quiet_op; go_big_quiet_on) | ((with_reducible apply quiet_cell); exact rfl; (first | (with_reducible exact oneTs) | (with_reducible exact oneBs) | (with_reducible exact oneInt) | (with_reducible exact oneBool) | (with_reducible exact oneU8)); exact sS; exact dS; go_big_quiet_op; go_big_quiet_on) | (go_big_quiet_op; go_big_quiet_on) | (go_big_quiet_op; go_big_quiet_on) | (go_big_quiet_op; refine ⟨_, fun _ _ => rfl, ?_⟩; go_big_quiet_on))))
  refine wpQuiet_nil ?_
  intro w' HM'
  clear HM; have HM := HM'; clear HM'
  go_wp2_with fail
  go_ret
  exact ⟨rfl, Own.fin HM⟩
set_option maxHeartbeats 800000 in
theorem great_1 (a1 a2 a3 : Option Addr) (n1 c1 n2 c2 n3 c3 : Nat) (w : World) (l1 : n1 ≤ 64) (l2 : 300 < n2) : Calls Try.prog 11 #[.agg #[.slice a1 n1 c1, .slice a2 n2 c2, .slice a3 n3 c3]] w fun e w' => e = .returned (.bool true) ∧ Below w.heap.size w w' := by
  have HM := Lib.hid (Own.start w)
  have tg1 : Hid True := trivial
  have K1 : ((64 : Int) < (n1 : Int)) = False := eq_false (by omega)
  have K2 : ((300 : Int) < (n2 : Int)) = True := eq_true (by omega)
  clear l1 l2
  go_enter Try.func11, Try.ntmps11
  go_upto_region 1 with (first | ((with_reducible apply own_box HM); exact rfl; (conv => lhs; whnf); exact rfl; exact rfl; (first | (clear tg1 HM; intro w' g1 HM) | (clear tg2 HM; intro w' g2 HM) | (clear tg3 HM; intro w' g3 HM) | (clear tg4 HM; intro w' g4 HM) | (clear HM; intro w' g' HM))) | ((with_reducible apply own_cell HM); exact rfl; exact rfl; (first | (with_reducible exact oneInt) | (with_reducible exact oneBool) | (with_reducible exact oneU8) | (with_reducible exact oneBs) | (with_reducible exact oneTs)); exact sS; exact dS; exact rfl) | ((with_reducible apply own_load HM); exact rfl; exact rfl; (first | (with_reducible exact aggS3) | (with_reducible exact agg11)); exact sS; exact dS; exact tS; exact rfl) | ((with_reducible apply own_store HM); exact rfl; exact rfl; (conv => lhs; whnf); exact rfl; exact sS; exact vS; exact sS; (first | (with_reducible exact (aggS3).size) | (with_reducible exact (agg11).size) | (with_reducible exact (oneInt).size) | (with_reducible exact (oneBool).size) | (with_reducible exact (oneU8).size) | (with_reducible exact (oneBs).size) | (with_reducible exact (oneTs).size)); exact rfl; exact rfl; exact rfl; exact rfl; clear HM; intro w' HM))
  (refine own_inorder HM ?_; (try simp only [Act.put, List.setIfInBounds_toArray, List.set_cons_zero, List.set_cons_succ]); repeat ((fail_if_success (with_reducible refine wpQuiet_nil ?_)); first | go_big_quiet_skip | (go_big_quiet_want; first | ((with_reducible apply quiet_load); exact rfl; (first | (with_reducible exact aggS3)); exact sS; exact dS; exact tS; go_big_quiet_op; go_big_quiet_on) | ((with_reducible apply quiet_cell); exact rfl; (first | (with_reducible exact oneTs) | (with_reducible exact oneBs) | (with_reducible exact oneInt) | (with_reducible exact oneBool) | (with_reducible exact oneU8)); exact sS; exact dS; go_big_quiet_op; go_big_quiet_on) | (go_big_quiet_op; go_big_quiet_on) | (go_big_quiet_op; go_big_quiet_on) | (go_big_quiet_op; refine ⟨_, fun _ _ => rfl, ?_⟩; go_big_quiet_on))))
  refine wpQuiet_nil ?_
  intro w' HM'
  clear HM; have HM := HM'; clear HM'
  go_wp2_with fail
  go_ret
  exact ⟨rfl, Own.fin HM⟩
set_option maxHeartbeats 800000 in
theorem great_2 (a1 a2 a3 : Option Addr) (n1 c1 n2 c2 n3 c3 : Nat) (w : World) (l1 : n1 ≤ 64) (l2 : n2 ≤ 300) (l3 : 100 < n3) : Calls Try.prog 11 #[.agg #[.slice a1 n1 c1, .slice a2 n2 c2, .slice a3 n3 c3]] w fun e w' => e = .returned (.bool true) ∧ Below w.heap.size w w' := by
  have HM := Lib.hid (Own.start w)
  have tg1 : Hid True := trivial
  have K1 : ((64 : Int) < (n1 : Int)) = False := eq_false (by omega)
  have K2 : ((300 : Int) < (n2 : Int)) = False := eq_false (by omega)
  have K3 : ((100 : Int) < (n3 : Int)) = True := eq_true (by omega)
  clear l1 l2 l3
  go_enter Try.func11, Try.ntmps11
  go_upto_region 1 with (first | ((with_reducible apply own_box HM); exact rfl; (conv => lhs; whnf); exact rfl; exact rfl; (first | (clear tg1 HM; intro w' g1 HM) | (clear tg2 HM; intro w' g2 HM) | (clear tg3 HM; intro w' g3 HM) | (clear tg4 HM; intro w' g4 HM) | (clear HM; intro w' g' HM))) | ((with_reducible apply own_cell HM); exact rfl; exact rfl; (first | (with_reducible exact oneInt) | (with_reducible exact oneBool) | (with_reducible exact oneU8) | (with_reducible exact oneBs) | (with_reducible exact oneTs)); exact sS; exact dS; exact rfl) | ((with_reducible apply own_load HM); exact rfl; exact rfl; (first | (with_reducible exact aggS3) | (with_reducible exact agg11)); exact sS; exact dS; exact tS; exact rfl) | ((with_reducible apply own_store HM); exact rfl; exact rfl; (conv => lhs; whnf); exact rfl; exact sS; exact vS; exact sS; (first | (with_reducible exact (aggS3).size) | (with_reducible exact (agg11).size) | (with_reducible exact (oneInt).size) | (with_reducible exact (oneBool).size) | (with_reducible exact (oneU8).size) | (with_reducible exact (oneBs).size) | (with_reducible exact (oneTs).size)); exact rfl; exact rfl; exact rfl; exact rfl; clear HM; intro w' HM))
  (refine own_inorder HM ?_; (try simp only [Act.put, List.setIfInBounds_toArray, List.set_cons_zero, List.set_cons_succ]); repeat ((fail_if_success (with_reducible refine wpQuiet_nil ?_)); first | go_big_quiet_skip | (go_big_quiet_want; first | ((with_reducible apply quiet_load); exact rfl; (first | (with_reducible exact aggS3)); exact sS; exact dS; exact tS; go_big_quiet_op; go_big_quiet_on) | ((with_reducible apply quiet_cell); exact rfl; (first | (with_reducible exact oneTs) | (with_reducible exact oneBs) | (with_reducible exact oneInt) | (with_reducible exact oneBool) | (with_reducible exact oneU8)); exact sS; exact dS; go_big_quiet_op; go_big_quiet_on) | (go_big_quiet_op; go_big_quiet_on) | (go_big_quiet_op; go_big_quiet_on) | (go_big_quiet_op; refine ⟨_, fun _ _ => rfl, ?_⟩; go_big_quiet_on))))
  refine wpQuiet_nil ?_
  intro w' HM'
  clear HM; have HM := HM'; clear HM'
  go_wp2_with fail
  go_ret
  exact ⟨rfl, Own.fin HM⟩
set_option maxHeartbeats 800000 in
theorem great_3 (a1 a2 a3 : Option Addr) (n1 c1 n2 c2 n3 c3 : Nat) (w : World) (l1 : n1 ≤ 64) (l2 : n2 ≤ 300) (l3 : n3 ≤ 100) : Calls Try.prog 11 #[.agg #[.slice a1 n1 c1, .slice a2 n2 c2, .slice a3 n3 c3]] w fun e w' => e = .returned (.bool false) ∧ Below w.heap.size w w' := by
  have HM := Lib.hid (Own.start w)
  have tg1 : Hid True := trivial
  have K1 : ((64 : Int) < (n1 : Int)) = False := eq_false (by omega)
  have K2 : ((300 : Int) < (n2 : Int)) = False := eq_false (by omega)
  have K3 : ((100 : Int) < (n3 : Int)) = False := eq_false (by omega)
  clear l1 l2 l3
  go_enter Try.func11, Try.ntmps11
  go_upto_region 1 with (first | ((with_reducible apply own_box HM); exact rfl; (conv => lhs; whnf); exact rfl; exact rfl; (first | (clear tg1 HM; intro w' g1 HM) | (clear tg2 HM; intro w' g2 HM) | (clear tg3 HM; intro w' g3 HM) | (clear tg4 HM; intro w' g4 HM) | (clear HM; intro w' g' HM))) | ((with_reducible apply own_cell HM); exact rfl; exact rfl; (first | (with_reducible exact oneInt) | (with_reducible exact oneBool) | (with_reducible exact oneU8) | (with_reducible exact oneBs) | (with_reducible exact oneTs)); exact sS; exact dS; exact rfl) | ((with_reducible apply own_load HM); exact rfl; exact rfl; (first | (with_reducible exact aggS3) | (with_reducible exact agg11)); exact sS; exact dS; exact tS; exact rfl) | ((with_reducible apply own_store HM); exact rfl; exact rfl; (conv => lhs; whnf); exact rfl; exact sS; exact vS; exact sS; (first | (with_reducible exact (aggS3).size) | (with_reducible exact (agg11).size) | (with_reducible exact (oneInt).size) | (with_reducible exact (oneBool).size) | (with_reducible exact (oneU8).size) | (with_reducible exact (oneBs).size) | (with_reducible exact (oneTs).size)); exact rfl; exact rfl; exact rfl; exact rfl; clear HM; intro w' HM))
  (refine own_inorder HM ?_; (try simp only [Act.put, List.setIfInBounds_toArray, List.set_cons_zero, List.set_cons_succ]); repeat ((fail_if_success (with_reducible refine wpQuiet_nil ?_)); first | go_big_quiet_skip | (go_big_quiet_want; first | ((with_reducible apply quiet_load); exact rfl; (first | (with_reducible exact aggS3)); exact sS; exact dS; exact tS; go_big_quiet_op; go_big_quiet_on) | ((with_reducible apply quiet_cell); exact rfl; (first | (with_reducible exact oneTs) | (with_reducible exact oneBs) | (with_reducible exact oneInt) | (with_reducible exact oneBool) | (with_reducible exact oneU8)); exact sS; exact dS; go_big_quiet_op; go_big_quiet_on) | (go_big_quiet_op; go_big_quiet_on) | (go_big_quiet_op; go_big_quiet_on) | (go_big_quiet_op; refine ⟨_, fun _ _ => rfl, ?_⟩; go_big_quiet_on))))
  refine wpQuiet_nil ?_
  intro w' HM'
  clear HM; have HM := HM'; clear HM'
  go_wp2_with fail
  go_ret
  exact ⟨rfl, Own.fin HM⟩
set_option maxHeartbeats 1600000 in
theorem rsource_at (r0 r1 r2 r3 r4 r5 r6 r7 r8 r9 r10 : Nat) (line x A C R c q : Int) (h0 : r0 < 256) (h8 : r8 < 256) (h9 : r9 < 256) (l0 : 0 ≤ line) (l1 : line ≤ 191)
    (hA : Hid (x % 256 = A)) (hC : Hid ((A - (r8 : Int)) % 256 = C)) (hR : Hid ((line + (r9 : Int)) % 224 = R))
    (hc : Hid (c = if r0 / 64 % 2 = 1 ∧ line < 16 then A else C)) (hq : Hid (q = if r0 / 128 = 1 ∧ 192 ≤ A then line else R)) (w : World) :
    Calls Try.prog 27 #[regsV r0 r1 r2 r3 r4 r5 r6 r7 r8 r9 r10, .int .i64 line, .int .i64 x] w fun e w' => e = .returned (.tuple #[.int .i64 c, .int .i64 q]) ∧ Below w.heap.size w w' := by
  have A0 : 0 ≤ A ∧ A < 256 := by have := hA.out; omega
  obtain ⟨A1, A2⟩ := A0
  have C0 : 0 ≤ C ∧ C < 256 := by have := hC.out; omega
  obtain ⟨C1, C2⟩ := C0
  have R0 : (line + (r9 : Int)).tmod 224 = R := by rw [Int.tmod_eq_emod_of_nonneg (by omega)]; exact hR.out
  obtain ⟨p, hp⟩ : ∃ p : Nat, r0 / 64 = p := ⟨_, rfl⟩
  obtain ⟨b, hb⟩ : ∃ b : Nat, p % 2 = b := ⟨_, rfl⟩
  obtain ⟨s, hs⟩ : ∃ s : Nat, r0 / 128 = s := ⟨_, rfl⟩
  have P1 : IntKind.u8.wrap ((r0 : Int) / 64) = (p : Int) := by rw [IntKind.wrap_u8]; omega
  have P2 : IntKind.u8.wrap ((p : Int) % 2) = (b : Int) := by rw [IntKind.wrap_u8]; omega
  have P3 : IntKind.u8.wrap ((r0 : Int) / 128) = (s : Int) := by rw [IntKind.wrap_u8]; omega
  have P4 : (p : Int) % 2 = (b : Int) := by omega
  have ec := hc.out
  have eq := hq.out
  rw [hp, hb] at ec
  rw [hs] at eq
  clear hp hb hs hR hc hq
  by_cases k1 : b = 1 <;> by_cases k2 : line < 16 <;> by_cases k3 : s = 1 <;> by_cases k4 : 192 ≤ A <;> simp only [k1, k2, k3, k4, and_true, and_false, if_true, if_false, and_self] at ec eq
  all_goals
    rw [ec, eq]
    clear ec eq
    have HM := Lib.hid (Own.start w)
    have tg1 : Hid True := Lib.hid trivial
    go_enter Try.func27, Try.ntmps27
    go_wp2_with (first | ((with_reducible apply own_box HM); exact rfl; (conv => lhs; whnf); exact rfl; exact rfl; (first | (clear tg1 HM; intro w' g1 HM) | (clear tg2 HM; intro w' g2 HM) | (clear tg3 HM; intro w' g3 HM) | (clear tg4 HM; intro w' g4 HM) | (clear HM; intro w' g' HM))) | ((with_reducible apply own_cell HM); exact rfl; exact rfl; (first | (with_reducible exact one8)); exact sS; exact dS; exact rfl) | ((with_reducible apply own_load HM); exact rfl; exact rfl; (first | (with_reducible exact agg11)); exact sS; exact dS; exact tS; exact rfl) | ((with_reducible apply own_store HM); exact rfl; exact rfl; (conv => lhs; whnf); exact rfl; exact sS; exact vS; exact sS; (first | (with_reducible exact (agg11).size) | (with_reducible exact (one8).size)); exact rfl; exact rfl; exact rfl; exact rfl; clear HM; intro w' HM) | (go_at_call 42; (with_reducible refine (rmod_at x 256 A (by decide) (by decide) hA _).mono ?_); rintro e w' ⟨rfl, rfl⟩) | (go_at_call 42; (with_reducible refine (rmod_at (A - (r8 : Int)) 256 C (by decide) (by decide) hC _).mono ?_); rintro e w' ⟨rfl, rfl⟩))
    all_goals (go_ret2; first | exact ⟨rfl, Own.fin HM⟩ | (exfalso; omega))
set_option maxHeartbeats 3200000 in
theorem rback_at (a : Option Addr) (n cap : Nat) (r0 r1 r2 r3 r4 r5 r6 r7 r8 r9 r10 : Nat) (line x : Int) (c q B e h d rr cc v : Nat) (t : Bool) (h2 : r2 < 256) (l0 : 0 ≤ line) (l1 : line ≤ 191) (c1 : c < 256) (q1 : q < 224)
    (hB : Hid (1024 * (r2 / 2 % 8 * 2) = B)) (h16 : h < 16) (d16 : d < 16) (hrr : Hid (rr = if h / 2 % 2 = 1 then 7 - q % 8 else q % 8)) (hcc : Hid (cc = if h % 2 = 1 then 7 - c % 8 else c % 8)) (hv : Hid (v = d + 16 * (h / 4 % 2))) (ht : Hid (t = (decide (h / 8 = 1) && decide (0 < d)))) (w : World)
    (hS : Hid (∀ w', Below w.heap.size w w' → Calls Try.prog 27 #[regsV r0 r1 r2 r3 r4 r5 r6 r7 r8 r9 r10, .int .i64 line, .int .i64 x] w' fun e w'' => e = .returned (.tuple #[.int .i64 (c : Int), .int .i64 (q : Int)]) ∧ Below w'.heap.size w' w''))
    (hE : Hid (∀ w', Below w.heap.size w w' → Calls Try.prog 28 #[.slice a n cap, .int .i64 (B : Int), .int .i64 ((q / 8 : Nat) : Int), .int .i64 ((c / 8 : Nat) : Int)] w' fun e_ w'' => e_ = .returned (.tuple #[.int .i64 (e : Int), .int .u8 (h : Int)]) ∧ w' = w''))
    (hD : Hid (∀ w', Below w.heap.size w w' → Calls Try.prog 29 #[.slice a n cap, .int .i64 (e : Int), .int .i64 (rr : Int), .int .i64 (cc : Int)] w' fun e w'' => e = .returned (.int .u8 (d : Int)) ∧ w' = w'')) :
    Calls Try.prog 17 #[.slice a n cap, regsV r0 r1 r2 r3 r4 r5 r6 r7 r8 r9 r10, .int .i64 line, .int .i64 x] w fun e w' => e = .returned (.tuple #[.int .u8 (v : Int), .bool t]) ∧ Below w.heap.size w w' := by
  obtain ⟨p, hp⟩ : ∃ p : Nat, r2 / 2 = p := ⟨_, rfl⟩
  obtain ⟨s, hs⟩ : ∃ s : Nat, p % 8 = s := ⟨_, rfl⟩
  have P1 : IntKind.u8.wrap ((r2 : Int) / 2) = (p : Int) := by rw [IntKind.wrap_u8]; omega
  have P2 : IntKind.u8.wrap ((p : Int) % 8) = (s : Int) := by rw [IntKind.wrap_u8]; omega
  have P3 : (p : Int) % 8 = (s : Int) := by omega
  have P4 : (r2 : Int) / 2 = (p : Int) := by omega
  have s8 : (s : Int) < 8 := by omega
  have B1 : 1024 * ((s : Int) * 2) = (B : Int) := by have := hB.out; rw [hp, hs] at this; omega
  obtain ⟨q8, hq8⟩ : ∃ m : Nat, q / 8 = m := ⟨_, rfl⟩
  obtain ⟨c8, hc8⟩ : ∃ m : Nat, c / 8 = m := ⟨_, rfl⟩
  obtain ⟨qr, hqr⟩ : ∃ m : Nat, q % 8 = m := ⟨_, rfl⟩
  obtain ⟨cr, hcr⟩ : ∃ m : Nat, c % 8 = m := ⟨_, rfl⟩
  have Q1 : (q : Int).tdiv 8 = (q8 : Int) := by rw [Int.tdiv_eq_ediv_of_nonneg (by omega)]; omega
  have Q2 : (q : Int).tmod 8 = (qr : Int) := by rw [Int.tmod_eq_emod_of_nonneg (by omega)]; omega
  have Q3 : (c : Int).tdiv 8 = (c8 : Int) := by rw [Int.tdiv_eq_ediv_of_nonneg (by omega)]; omega
  have Q4 : (c : Int).tmod 8 = (cr : Int) := by rw [Int.tmod_eq_emod_of_nonneg (by omega)]; omega
  have qr8 : (qr : Int) < 8 := by omega
  have cr8 : (cr : Int) < 8 := by omega
  have q28 : (q8 : Int) < 28 := by omega
  have c32 : (c8 : Int) < 32 := by omega
  have d16' : (d : Int) < 16 := by omega
  rw [hq8, hc8] at hE
  rw [hqr] at hrr
  rw [hcr] at hcc
  clear hp hs hB hq8 hc8 hqr hcr
  have HM := Lib.hid (Own.start w)
  have tg1 : Hid True := trivial
  obtain rfl | rfl | rfl | rfl | rfl | rfl | rfl | rfl | rfl | rfl | rfl | rfl | rfl | rfl | rfl | rfl : h = 0 ∨ h = 1 ∨ h = 2 ∨ h = 3 ∨ h = 4 ∨ h = 5 ∨ h = 6 ∨ h = 7 ∨ h = 8 ∨ h = 9 ∨ h = 10 ∨ h = 11 ∨ h = 12 ∨ h = 13 ∨ h = 14 ∨ h = 15 := by omega
  all_goals
    have e1 := hrr.out
    have e2 := hcc.out
    have e3 := hv.out
    have e4 := ht.out
    simp only [Nat.reduceDiv, Nat.reduceMod, if_true, if_false, Nat.reduceMul, Nat.add_zero, Nat.mul_zero, decide_true, decide_false, Bool.true_and, Bool.false_and, reduceCtorEq] at e1 e2 e3 e4
    clear hrr hcc hv ht
    first | (have E1 : 7 - (qr : Int) = (rr : Int) := by omega) | (obtain rfl : rr = qr := e1)
    first | (have E2 : 7 - (cr : Int) = (cc : Int) := by omega) | (obtain rfl : cc = cr := e2)
    first | (obtain rfl : t = false := e4) | (by_cases k : d = 0)
    all_goals try (simp only [k, Nat.lt_irrefl, decide_false] at e4; subst e4; have K : ¬ 0 < (d : Int) := by omega
                   clear k)
    all_goals try (have k' : 0 < d := by omega
                   simp only [k', decide_true] at e4; subst e4; have K : 0 < (d : Int) := by omega
                   clear k k')
    all_goals first | (have E3 : (d : Int) + 16 = (v : Int) := by omega) | (obtain rfl : v = d := e3)
    all_goals try clear e1
    all_goals try clear e2
    all_goals try clear e3
    all_goals clear d16
    all_goals
      go_enter Try.func17, Try.ntmps17
      go_wp2_with (first | ((with_reducible apply own_box HM); exact rfl; (conv => lhs; whnf); exact rfl; exact rfl; (first | (clear tg1 HM; intro w' g1 HM) | (clear tg2 HM; intro w' g2 HM) | (clear tg3 HM; intro w' g3 HM) | (clear tg4 HM; intro w' g4 HM) | (clear HM; intro w' g' HM))) | ((with_reducible apply own_cell HM); exact rfl; exact rfl; (first | (with_reducible exact one8)); exact sS; exact dS; exact rfl) | ((with_reducible apply own_load HM); exact rfl; exact rfl; (first | (with_reducible exact agg11)); exact sS; exact dS; exact tS; exact rfl) | ((with_reducible apply own_store HM); exact rfl; exact rfl; (conv => lhs; whnf); exact rfl; exact sS; exact vS; exact sS; (first | (with_reducible exact (agg11).size) | (with_reducible exact (one8).size)); exact rfl; exact rfl; exact rfl; exact rfl; clear HM; intro w' HM) | (go_at_call 27; (with_reducible refine (hS.out _ (Own.fin HM)).mono ?_); rintro e w' ⟨rfl, hb⟩; replace HM := Lib.hid (HM.out.call hb); clear hb) | (go_at_call 28; (with_reducible refine (hE.out _ (Own.fin HM)).mono ?_); rintro e w' ⟨rfl, rfl⟩) | (go_at_call 29; (with_reducible refine (hD.out _ (Own.fin HM)).mono ?_); rintro e w' ⟨rfl, rfl⟩))
      all_goals (go_ret2; first | exact ⟨rfl, Own.fin HM⟩ | exact ⟨congrArg (fun z : Bool => Ending.returned (Value.tuple #[Value.int IntKind.u8 _, Value.bool z])) (decide_eq_true (p := 0 < v) (by omega)), Own.fin HM⟩ | exact ⟨congrArg (fun z : Bool => Ending.returned (Value.tuple #[Value.int IntKind.u8 _, Value.bool z])) (decide_eq_true (p := 0 < d) (by omega)), Own.fin HM⟩ | exact ⟨congrArg (fun z : Bool => Ending.returned (Value.tuple #[Value.int IntKind.u8 _, Value.bool z])) (decide_eq_false (p := 0 < v) (by omega)), Own.fin HM⟩ | exact ⟨congrArg (fun z : Bool => Ending.returned (Value.tuple #[Value.int IntKind.u8 _, Value.bool z])) (decide_eq_false (p := 0 < d) (by omega)), Own.fin HM⟩)
end Go.Proofs.Ytijjigacmmhloaa
