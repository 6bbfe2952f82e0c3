import Derived.Test.YtijjigacmmhloaaQ9
namespace Go.Proofs.Ytijjigacmmhloaa
open Go.RowKit
set_option maxRecDepth 100000 in
theorem draw_o0 (a : Option Addr) (n cap : Nat) (a2 : Option Addr) (m cap2 : Nat) (r0 r1 r2 r3 r4 r5 r6 r7 r8 r9 r10 : Nat) (L : Int) (hl : L < 0) (w : World) :
    Calls Try.prog 8 #[.slice a n cap, .slice a2 m cap2, regsV r0 r1 r2 r3 r4 r5 r6 r7 r8 r9 r10, .int .i64 L] w fun e w' => e = .returned (rowV (fun _ => 0) false false) ∧ Below w.heap.size w w' := by
  have HM := Lib.hid (Own.start w)
  have tg1 : Hid True := trivial
  have tg2 : Hid True := trivial
  have tg3 : Hid True := trivial
  have k1 : L < 0 := hl
  go_enter Try.func8, Try.ntmps8
  go_wp2_with (first | ((with_reducible apply own_row HM); exact rfl; exact rfl; exact aggPL; (first | with_reducible exact .z | with_reducible exact .s .z | with_reducible exact .s (.s .z) | with_reducible exact .s (.s (.s .z))); exact rfl; exact rcells_length _ _ _) | ((with_reducible apply own_lay HM); exact rfl; exact rfl; exact rfl; exact sS; exact sS; exact aggPL.size; (exact rcells_length _ _ _); (exact rcells_length _ _ _); (exact rcells_one _ _ _); exact rfl; exact rfl; clear HM; intro w' HM) | ((with_reducible apply own_box HM); exact rfl; (conv => lhs; whnf); exact rfl; exact rfl; (first | (clear tg1 HM; intro w' g1 HM) | (clear tg2 HM; intro w' g2 HM) | (clear tg3 HM; intro w' g3 HM) | (clear tg4 HM; intro w' g4 HM) | (clear HM; intro w' g' HM))) | ((with_reducible apply own_alloc HM); exact rfl; (first | (with_reducible exact zeroPL)); exact rfl; (first | (clear tg1 HM; intro w' g1 HM) | (clear tg2 HM; intro w' g2 HM) | (clear tg3 HM; intro w' g3 HM) | (clear tg4 HM; intro w' g4 HM) | (clear HM; intro w' g' HM))) | ((with_reducible apply own_cell HM); exact rfl; exact rfl; (first | (with_reducible exact one8) | (with_reducible exact oneInt) | (with_reducible exact oneBool)); exact sS; exact dS; exact rfl) | ((with_reducible apply own_load HM); exact rfl; exact rfl; (first | (with_reducible exact agg11)); exact sS; exact dS; exact tS; exact rfl) | ((with_reducible apply own_store HM); exact rfl; exact rfl; (conv => lhs; whnf); exact rfl; exact sS; exact vS; exact sS; (first | (with_reducible exact (agg11).size) | (with_reducible exact (one8).size) | (with_reducible exact (oneInt).size) | (with_reducible exact (oneBool).size)); exact rfl; exact rfl; exact rfl; exact rfl; clear HM; intro w' HM))
  refine bodyPost_ret (v := .agg (rcells (fun _ => 0) false false).toArray) (own_results HM Try.results8 _ rfl (by (first | with_reducible exact .z | with_reducible exact .s .z | with_reducible exact .s (.s .z) | with_reducible exact .s (.s (.s .z)))) (by rw [rcells_length]; exact aggPL)) rfl ⟨rfl, Own.fin HM⟩
set_option maxRecDepth 100000 in
theorem draw_o1 (a : Option Addr) (n cap : Nat) (a2 : Option Addr) (m cap2 : Nat) (r0 r1 r2 r3 r4 r5 r6 r7 r8 r9 r10 : Nat) (L : Int) (hl : 191 < L) (w : World) :
    Calls Try.prog 8 #[.slice a n cap, .slice a2 m cap2, regsV r0 r1 r2 r3 r4 r5 r6 r7 r8 r9 r10, .int .i64 L] w fun e w' => e = .returned (rowV (fun _ => 0) false false) ∧ Below w.heap.size w w' := by
  have HM := Lib.hid (Own.start w)
  have tg1 : Hid True := trivial
  have tg2 : Hid True := trivial
  have tg3 : Hid True := trivial
  have k1 : ¬ L < 0 := by omega
  have k2 : 192 ≤ L := by omega
  go_enter Try.func8, Try.ntmps8
  go_wp2_with (first | ((with_reducible apply own_row HM); exact rfl; exact rfl; exact aggPL; (first | with_reducible exact .z | with_reducible exact .s .z | with_reducible exact .s (.s .z) | with_reducible exact .s (.s (.s .z))); exact rfl; exact rcells_length _ _ _) | ((with_reducible apply own_lay HM); exact rfl; exact rfl; exact rfl; exact sS; exact sS; exact aggPL.size; (exact rcells_length _ _ _); (exact rcells_length _ _ _); (exact rcells_one _ _ _); exact rfl; exact rfl; clear HM; intro w' HM) | ((with_reducible apply own_box HM); exact rfl; (conv => lhs; whnf); exact rfl; exact rfl; (first | (clear tg1 HM; intro w' g1 HM) | (clear tg2 HM; intro w' g2 HM) | (clear tg3 HM; intro w' g3 HM) | (clear tg4 HM; intro w' g4 HM) | (clear HM; intro w' g' HM))) | ((with_reducible apply own_alloc HM); exact rfl; (first | (with_reducible exact zeroPL)); exact rfl; (first | (clear tg1 HM; intro w' g1 HM) | (clear tg2 HM; intro w' g2 HM) | (clear tg3 HM; intro w' g3 HM) | (clear tg4 HM; intro w' g4 HM) | (clear HM; intro w' g' HM))) | ((with_reducible apply own_cell HM); exact rfl; exact rfl; (first | (with_reducible exact one8) | (with_reducible exact oneInt) | (with_reducible exact oneBool)); exact sS; exact dS; exact rfl) | ((with_reducible apply own_load HM); exact rfl; exact rfl; (first | (with_reducible exact agg11)); exact sS; exact dS; exact tS; exact rfl) | ((with_reducible apply own_store HM); exact rfl; exact rfl; (conv => lhs; whnf); exact rfl; exact sS; exact vS; exact sS; (first | (with_reducible exact (agg11).size) | (with_reducible exact (one8).size) | (with_reducible exact (oneInt).size) | (with_reducible exact (oneBool).size)); exact rfl; exact rfl; exact rfl; exact rfl; clear HM; intro w' HM))
  refine bodyPost_ret (v := .agg (rcells (fun _ => 0) false false).toArray) (own_results HM Try.results8 _ rfl (by (first | with_reducible exact .z | with_reducible exact .s .z | with_reducible exact .s (.s .z) | with_reducible exact .s (.s (.s .z)))) (by rw [rcells_length]; exact aggPL)) rfl ⟨rfl, Own.fin HM⟩
theorem draw_o (a : Option Addr) (n cap : Nat) (a2 : Option Addr) (m cap2 : Nat) (r0 r1 r2 r3 r4 r5 r6 r7 r8 r9 r10 : Nat) (L : Int) (hl : L < 0 ∨ 191 < L) (w : World) :
    Calls Try.prog 8 #[.slice a n cap, .slice a2 m cap2, regsV r0 r1 r2 r3 r4 r5 r6 r7 r8 r9 r10, .int .i64 L] w fun e w' => e = .returned (rowV (fun _ => 0) false false) ∧ Below w.heap.size w w' :=
  hl.elim (fun h => draw_o0 a n cap a2 m cap2 r0 r1 r2 r3 r4 r5 r6 r7 r8 r9 r10 L h w) fun h => draw_o1 a n cap a2 m cap2 r0 r1 r2 r3 r4 r5 r6 r7 r8 r9 r10 L h w
theorem li_land15 : ∀ a, a < 256 → Nat.land a 15 = a % 16 := by decide +kernel
theorem li_land32 : ∀ a, a < 256 → Nat.land a 32 = 32 * (a / 32 % 2) := by decide +kernel
theorem li_gone (f : Nat → Nat) (g : Nat → Bool) : (gcells f g).all (·.oneCell') = true := by
  rw [List.all_eq_true]
  intro v hv
  unfold gcells at hv
  rcases List.mem_append.1 hv with h | h
  · obtain ⟨x, _, rfl⟩ := List.mem_map.1 h; rfl
  · obtain ⟨x, _, rfl⟩ := List.mem_map.1 h; rfl
theorem rc_step (E : Nat → Nat) (o k : Bool) (j v : Nat) (h : E j = v) : rcells (upd (fun i => if i < j then E i else 0) j v) o k = rcells (fun i => if i < j + 1 then E i else 0) o k := by rw [← h, upd_step]
theorem rc_end (E : Nat → Nat) (o k : Bool) : rcells (fun i => if i < 256 then E i else 0) o k = rcells E o k := rcells_ext fun _ hi => if_pos hi
set_option maxRecDepth 100000 in
set_option maxHeartbeats 12800000 in
theorem draw_in (a : Option Addr) (n cap : Nat) (xs : Nat → Nat) (a2 : Option Addr) (m cap2 : Nat) (ys : Nat → Nat) (r0 r1 r2 r3 r4 r5 r6 r7 r8 r9 r10 line : Nat) (h0 : r0 < 256) (h1 : r1 < 256) (h2 : r2 < 256) (h5 : r5 < 256) (h6 : r6 < 256) (h7 : r7 < 256) (h8 : r8 < 256) (h9 : r9 < 256) (hl : line < 192) (L : Int) (hL : Hid ((line : Int) = L)) (C : Nat → Nat) (o k : Bool) (hf : Hid (liC n xs m ys r0 r1 r2 r5 r6 r7 r8 r9 line = C)) (ho : Hid (liO n xs r1 r5 (line : Int) = o)) (hc : Hid (liK n xs r0 r1 r5 r6 (line : Int) = k)) (w : World) (hV : ByteRow w a n xs) (hV2 : ByteRow w a2 m ys) :
    Calls Try.prog 8 #[.slice a n cap, .slice a2 m cap2, regsV r0 r1 r2 r3 r4 r5 r6 r7 r8 r9 r10, .int .i64 L] w fun e w' => e = .returned (rowV C o k) ∧ Below w.heap.size w w' := by
  obtain rfl : L = (line : Int) := hL.out.symm
  have HM := Lib.hid (Own.start w)
  have tg1 : Hid True := trivial
  have tg2 : Hid True := trivial
  have tg3 : Hid True := trivial
  have hn256 : Hid ((256 : Int) = ((256 : Nat) : Int)) := Lib.hid rfl
  have hn8 : Hid ((8 : Int) = ((8 : Nat) : Int)) := Lib.hid rfl
  have hl256 : 256 ≤ 256 := by decide
  have hl8 : 8 ≤ 256 := by decide
  have HV := Lib.hid hV
  have HV2 := Lib.hid hV2
  have H0 := Lib.hid h0
  have H1 := Lib.hid h1
  have H2 := Lib.hid h2
  have H5 := Lib.hid h5
  have H6 := Lib.hid h6
  have H7 := Lib.hid h7
  have H8 := Lib.hid h8
  have H9 := Lib.hid h9
  have HL := Lib.hid hl
  have k1 : ¬ (line : Int) < 0 := by omega
  have k2 : ¬ 192 ≤ (line : Int) := by omega
  have k3 : (line : Int) < 192 := by omega
  have HL0 : Hid (0 ≤ (line : Int)) := Lib.hid (by omega)
  have HL1 : Hid ((line : Int) ≤ 191) := Lib.hid (by omega)
  have ec : ∀ x, (if r1 / 64 % 2 = 0 ∨ (x < 8 ∧ r0 / 32 % 2 = 1) then liB m ys r7 else liP m ys (liN n xs r0 r1 r2 r5 r6 r8 r9 line x)) = C x := fun x => congrFun hf.out x
  obtain ⟨b7, hb7⟩ : ∃ b : Nat, r7 % 16 = b := ⟨_, rfl⟩
  have M7 : bits .and .u8 (r7 : Int) 15 = (b7 : Int) := ((u8_and_nat r7 15 h7 (by decide)).trans (congrArg _ (li_land15 r7 h7))).trans (by rw [hb7])
  have b7l : (b7 : Int) < 16 := by omega
  have b7k : Hid ((16 + (b7 : Int)) % 32 = ((16 + b7 : Nat) : Int)) := Lib.hid (by omega)
  obtain ⟨bd, hbd⟩ : ∃ b, Hid (vget m ys (16 + b7) % 64 = b) := ⟨_, rfl⟩
  have eb : liB m ys r7 = bd := by rw [← hbd.out]; unfold liB liP; rw [hb7, Nat.mod_eq_of_lt (show 16 + b7 < 32 by omega)]
  simp only [eb] at ec
  have ek := hc.out
  have eo := ho.out
  unfold liK at ek
  unfold liO at eo
  obtain ⟨s0, hs0⟩ : ∃ q : Nat, r0 / 32 % 2 = q := ⟨_, rfl⟩
  have M0 : bits .and .u8 (r0 : Int) 32 = ((32 * s0 : Nat) : Int) := ((u8_and_nat r0 32 h0 (by decide)).trans (congrArg _ (li_land32 r0 h0))).trans (by rw [hs0])
  have s01 : s0 < 2 := by omega
  clear h2 h5 h6 h7 h8 h9 hl hV hV2 hL hb7 eb hf ho hc h0
  rcases (show r1 / 64 % 2 = 0 ∨ r1 / 64 % 2 = 1 by omega) with q1 | q1
  · have hsh : Hid (decide (r1 / 64 % 2 = 1) = false) := Lib.hid (by rw [q1]; rfl)
    have HC : Hid (∀ x, C x = bd) := Lib.hid fun x => by rw [← ec x, if_pos (.inl q1)]
    obtain rfl : false = k := by rw [← ek, q1]; rfl
    obtain rfl : false = o := by rw [← eo, q1]; rfl
    have HEND : Hid (rcells (fun i => if i < 256 then bd else (fun _ => 0) i) false false = rcells C false false) := Lib.hid (rcells_ext fun i hi => by rw [if_pos hi, HC.out i])
    clear ec ek eo q1 h1 hs0 M0 s01
    go_enter Try.func8, Try.ntmps8
    go_upto_region 7 with (first | ((with_reducible apply own_box HM); exact rfl; (conv => lhs; whnf); exact rfl; exact rfl; (first | (clear tg1 HM; intro w' g1 HM) | (clear tg2 HM; intro w' g2 HM) | (clear tg3 HM; intro w' g3 HM) | (clear tg4 HM; intro w' g4 HM) | (clear HM; intro w' g' HM))) | ((with_reducible apply own_alloc HM); exact rfl; (first | (with_reducible exact zeroPL)); exact rfl; (first | (clear tg1 HM; intro w' g1 HM) | (clear tg2 HM; intro w' g2 HM) | (clear tg3 HM; intro w' g3 HM) | (clear tg4 HM; intro w' g4 HM) | (clear HM; intro w' g' HM))) | ((with_reducible apply own_cell HM); exact rfl; exact rfl; (first | (with_reducible exact one8) | (with_reducible exact oneInt) | (with_reducible exact oneBool)); exact sS; exact dS; exact rfl) | ((with_reducible apply own_load HM); exact rfl; exact rfl; (first | (with_reducible exact agg11)); exact sS; exact dS; exact tS; exact rfl) | ((with_reducible apply own_store HM); exact rfl; exact rfl; (conv => lhs; whnf); exact rfl; exact sS; exact vS; exact sS; (first | (with_reducible exact (agg11).size) | (with_reducible exact (one8).size) | (with_reducible exact (oneInt).size) | (with_reducible exact (oneBool).size)); exact rfl; exact rfl; exact rfl; exact rfl; clear HM; intro w' HM) | (go_at_call 10; (with_reducible refine (paint_at a2 m cap2 ys _ (16 + b7) bd b7k hbd _ (HV2.out.under (Own.fin HM))).mono ?_); rintro e w' ⟨rfl, hb⟩; replace HM := Lib.hid (HM.out.call hb); clear hb) | (go_at_call 18; (with_reducible refine (shows_at r0 r1 r2 r3 r4 r5 r6 r7 r8 r9 r10 H1.out _ hsh _).mono ?_); rintro e w' ⟨rfl, hb⟩; replace HM := Lib.hid (HM.out.call hb); clear hb) | (go_at_call 19; (with_reducible refine (cover_0 g3 (fun _ => 0) false false 256 bd 256 hn256 hl256 HM).mono ?_); rintro e w' ⟨rfl, HM'⟩; clear HM; have HM := HM'; clear HM'))
    rw [HEND.out] at HM
    go_wp2_with (first | ((with_reducible apply own_row HM); exact rfl; exact rfl; exact aggPL; (first | with_reducible exact .z | with_reducible exact .s .z | with_reducible exact .s (.s .z) | with_reducible exact .s (.s (.s .z))); exact rfl; exact rcells_length _ _ _) | ((with_reducible apply own_lay HM); exact rfl; exact rfl; exact rfl; exact sS; exact sS; exact aggPL.size; (exact rcells_length _ _ _); (exact rcells_length _ _ _); (exact rcells_one _ _ _); exact rfl; exact rfl; clear HM; intro w' HM) | ((with_reducible apply own_box HM); exact rfl; (conv => lhs; whnf); exact rfl; exact rfl; (first | (clear tg1 HM; intro w' g1 HM) | (clear tg2 HM; intro w' g2 HM) | (clear tg3 HM; intro w' g3 HM) | (clear tg4 HM; intro w' g4 HM) | (clear HM; intro w' g' HM))) | ((with_reducible apply own_alloc HM); exact rfl; (first | (with_reducible exact zeroPL)); exact rfl; (first | (clear tg1 HM; intro w' g1 HM) | (clear tg2 HM; intro w' g2 HM) | (clear tg3 HM; intro w' g3 HM) | (clear tg4 HM; intro w' g4 HM) | (clear HM; intro w' g' HM))) | ((with_reducible apply own_cell HM); exact rfl; exact rfl; (first | (with_reducible exact one8) | (with_reducible exact oneInt) | (with_reducible exact oneBool)); exact sS; exact dS; exact rfl) | ((with_reducible apply own_load HM); exact rfl; exact rfl; (first | (with_reducible exact agg11)); exact sS; exact dS; exact tS; exact rfl) | ((with_reducible apply own_store HM); exact rfl; exact rfl; (conv => lhs; whnf); exact rfl; exact sS; exact vS; exact sS; (first | (with_reducible exact (agg11).size) | (with_reducible exact (one8).size) | (with_reducible exact (oneInt).size) | (with_reducible exact (oneBool).size)); exact rfl; exact rfl; exact rfl; exact rfl; clear HM; intro w' HM))
    refine bodyPost_ret (v := .agg (rcells C false false).toArray) (own_results HM Try.results8 _ rfl (by (first | with_reducible exact .z | with_reducible exact .s .z | with_reducible exact .s (.s .z) | with_reducible exact .s (.s (.s .z)))) (by rw [rcells_length]; exact aggPL)) rfl ⟨rfl, Own.fin HM⟩
  · have hsh : Hid (decide (r1 / 64 % 2 = 1) = true) := Lib.hid (by rw [q1]; rfl)
    have EK : Hid (spK n xs r0 r1 r5 r6 (line : Int) = k) := Lib.hid (by rw [← ek, q1]; rfl)
    have EO : Hid (spO n xs r1 r5 (line : Int) = o) := Lib.hid (by rw [← eo, q1]; rfl)
    obtain ⟨gc, hgc⟩ : ∃ z, Hid (gColor n xs r0 r2 r8 r9 line = z) := ⟨_, rfl⟩
    obtain ⟨gf, hgf⟩ : ∃ z, Hid (gFront n xs r0 r2 r8 r9 line = z) := ⟨_, rfl⟩
    obtain ⟨sf, hsf⟩ : ∃ z, Hid (spC n xs r0 r1 r5 r6 (line : Int) = z) := ⟨_, rfl⟩
    obtain ⟨E, hE⟩ : ∃ E : Nat → Nat, Hid (∀ x, liP m ys (if sf x = 0 ∨ gf x = true then gc x else sf x) = E x) := ⟨_, Lib.hid fun _ => rfl⟩
    have HC : Hid (∀ x, (if x < 8 ∧ s0 = 1 then bd else E x) = C x) := Lib.hid fun x => by
      rw [← ec x, hs0, ← hE.out]
      have : liN n xs r0 r1 r2 r5 r6 r8 r9 line x = if sf x = 0 ∨ gf x = true then gc x else sf x := by unfold liN; rw [hsf.out, hgc.out, hgf.out]
      rw [this]
      by_cases h : x < 8 ∧ s0 = 1
      · rw [if_pos h, if_pos (.inr h)]
      · rw [if_neg h, if_neg (show ¬ (r1 / 64 % 2 = 0 ∨ (x < 8 ∧ s0 = 1)) by omega)]
    have S32 : Hid (∀ x, sf x < 32) := Lib.hid fun x => by rw [← hsf.out]; exact spC_lt _ _ _ _ _ _ _ _
    have C32 : Hid (∀ x, gc x < 32) := Lib.hid fun x => by rw [← hgc.out]; exact gColor_lt _ _ _ _ _ _ _ _
    have M0H := Lib.hid M0
    have S01 := Lib.hid s01
    clear ec ek eo q1 h1 hs0 M0 s01
    go_enter Try.func8, Try.ntmps8
    go_upto_region 8 with (first | ((with_reducible apply own_box HM); exact rfl; (conv => lhs; whnf); exact rfl; exact rfl; (first | (clear tg1 HM; intro w' g1 HM) | (clear tg2 HM; intro w' g2 HM) | (clear tg3 HM; intro w' g3 HM) | (clear tg4 HM; intro w' g4 HM) | (clear HM; intro w' g' HM))) | ((with_reducible apply own_alloc HM); exact rfl; (first | (with_reducible exact zeroPL)); exact rfl; (first | (clear tg1 HM; intro w' g1 HM) | (clear tg2 HM; intro w' g2 HM) | (clear tg3 HM; intro w' g3 HM) | (clear tg4 HM; intro w' g4 HM) | (clear HM; intro w' g' HM))) | ((with_reducible apply own_cell HM); exact rfl; exact rfl; (first | (with_reducible exact one8) | (with_reducible exact oneInt) | (with_reducible exact oneBool)); exact sS; exact dS; exact rfl) | ((with_reducible apply own_load HM); exact rfl; exact rfl; (first | (with_reducible exact agg11)); exact sS; exact dS; exact tS; exact rfl) | ((with_reducible apply own_store HM); exact rfl; exact rfl; (conv => lhs; whnf); exact rfl; exact sS; exact vS; exact sS; (first | (with_reducible exact (agg11).size) | (with_reducible exact (one8).size) | (with_reducible exact (oneInt).size) | (with_reducible exact (oneBool).size)); exact rfl; exact rfl; exact rfl; exact rfl; clear HM; intro w' HM) | (go_at_call 10; (with_reducible refine (paint_at a2 m cap2 ys _ (16 + b7) bd b7k hbd _ (HV2.out.under (Own.fin HM))).mono ?_); rintro e w' ⟨rfl, hb⟩; replace HM := Lib.hid (HM.out.call hb); clear hb) | (go_at_call 18; (with_reducible refine (shows_at r0 r1 r2 r3 r4 r5 r6 r7 r8 r9 r10 H1.out _ hsh _).mono ?_); rintro e w' ⟨rfl, hb⟩; replace HM := Lib.hid (HM.out.call hb); clear hb))
    clear k1 k2 M7 b7l
    refine wp_region_held (S := fun w' => Own w w' [(g3, 25, rcells (fun _ => 0) false false), (g2, 25, rcells (fun _ => 0) false false), (g1, 27, [.int .u8 (r0 : Int), .int .u8 (r1 : Int), .int .u8 (r2 : Int), .int .u8 (r3 : Int), .int .u8 (r4 : Int), .int .u8 (r5 : Int), .int .u8 (r6 : Int), .int .u8 (r7 : Int), .int .u8 (r8 : Int), .int .u8 (r9 : Int), .int .u8 (r10 : Int)])]) (by kernel_rfl) ?_
    replace HM := Lib.hid HM.out.drew
    change wpAnyH _ _ _ _ _ _ _ _ (World.drew _)
    have HQ := HM.out
    refine h_take (i := 0) (d := 35) (v := .slice a n cap) rfl rfl (by kernel_rfl) (by kernel_rfl) (by kernel_rfl) (fun _ _ _ h => h) (y_pure rfl (fun w => by go_simp)) HQ ?_
    (try simp only [Act.put, List.setIfInBounds_toArray, List.set_cons_zero, List.set_cons_succ])
    refine h_take (i := 1) (d := 36) (v := .agg #[.int .u8 (r0 : Int), .int .u8 (r1 : Int), .int .u8 (r2 : Int), .int .u8 (r3 : Int), .int .u8 (r4 : Int), .int .u8 (r5 : Int), .int .u8 (r6 : Int), .int .u8 (r7 : Int), .int .u8 (r8 : Int), .int .u8 (r9 : Int), .int .u8 (r10 : Int)]) rfl rfl (by kernel_rfl) (by kernel_rfl) (by kernel_rfl) (fun _ _ _ h => h) (y_row (g := g1) rfl rfl agg11 (.s (.s .z)) rfl rfl) HQ ?_
    (try simp only [Act.put, List.setIfInBounds_toArray, List.set_cons_zero, List.set_cons_succ])
    refine h_take (i := 2) (d := 37) (v := .int .i64 (line : Int)) rfl rfl (by kernel_rfl) (by kernel_rfl) (by kernel_rfl) (fun _ _ _ h => h) (y_pure rfl (fun w => by go_simp)) HQ ?_
    (try simp only [Act.put, List.setIfInBounds_toArray, List.set_cons_zero, List.set_cons_succ])
    refine h_take (i := 4) (d := 39) (v := .slice a n cap) rfl rfl (by kernel_rfl) (by kernel_rfl) (by kernel_rfl) (fun _ _ _ h => h) (y_pure rfl (fun w => by go_simp)) HQ ?_
    (try simp only [Act.put, List.setIfInBounds_toArray, List.set_cons_zero, List.set_cons_succ])
    refine h_take (i := 5) (d := 40) (v := .agg #[.int .u8 (r0 : Int), .int .u8 (r1 : Int), .int .u8 (r2 : Int), .int .u8 (r3 : Int), .int .u8 (r4 : Int), .int .u8 (r5 : Int), .int .u8 (r6 : Int), .int .u8 (r7 : Int), .int .u8 (r8 : Int), .int .u8 (r9 : Int), .int .u8 (r10 : Int)]) rfl rfl (by kernel_rfl) (by kernel_rfl) (by kernel_rfl) (fun _ _ _ h => h) (y_row (g := g1) rfl rfl agg11 (.s (.s .z)) rfl rfl) HQ ?_
    (try simp only [Act.put, List.setIfInBounds_toArray, List.set_cons_zero, List.set_cons_succ])
    refine h_take (i := 6) (d := 41) (v := .int .i64 (line : Int)) rfl rfl (by kernel_rfl) (by kernel_rfl) (by kernel_rfl) (fun _ _ _ h => h) (y_pure rfl (fun w => by go_simp)) HQ ?_
    (try simp only [Act.put, List.setIfInBounds_toArray, List.set_cons_zero, List.set_cons_succ])
    clear HQ
    refine two (tA := 51) (tB := 53) (zA := gcells (fun _ => 0) (fun _ => false)) (zB := rcells (fun _ => 0) false false) (cA := gcells gc gf) (cB := rcells sf o k) (k1 := 38) (k2 := 42) (kA := 11) (kB := 12) (by kernel_rfl) (by decide) ⟨by simp, by simp, by simp, by simp⟩ ?_ ?_ ?_ ?_ ?_ ?_ ?_ HM
    · intro a_ w' K hs hO hk
      refine wpOp_of rfl rfl ?_
      refine w_call (f := 20) (args := #[.slice a n cap, .agg #[.int .u8 (r0 : Int), .int .u8 (r1 : Int), .int .u8 (r2 : Int), .int .u8 (r3 : Int), .int .u8 (r4 : Int), .int .u8 (r5 : Int), .int .u8 (r6 : Int), .int .u8 (r7 : Int), .int .u8 (r8 : Int), .int .u8 (r9 : Int), .int .u8 (r10 : Int)], .int .i64 (line : Int)]) (fun w => rfl) ?_ ?_
      · simp only [List.map_toArray, List.map_cons, List.map_nil, Array.empty_append, Array.append_empty, hs 35 (by decide), hs 36 (by decide), hs 37 (by decide)]
        rfl
      · refine (bline_in a n cap xs r0 r1 r2 r3 r4 r5 r6 r7 r8 r9 r10 line H0.out H2.out H8.out H9.out HL.out _ (Lib.hid rfl) gc gf hgc hgf w' (HV.out.under (Own.fin hO))).mono ?_
        rintro e w'' ⟨rfl, hb⟩
        exact ⟨_, rfl, hk w'' hb⟩
    · intro a_ w' K hs hO hk
      refine wpOp_of rfl rfl ?_
      refine w_call (f := 21) (args := #[.slice a n cap, .agg #[.int .u8 (r0 : Int), .int .u8 (r1 : Int), .int .u8 (r2 : Int), .int .u8 (r3 : Int), .int .u8 (r4 : Int), .int .u8 (r5 : Int), .int .u8 (r6 : Int), .int .u8 (r7 : Int), .int .u8 (r8 : Int), .int .u8 (r9 : Int), .int .u8 (r10 : Int)], .int .i64 (line : Int)]) (fun w => rfl) ?_ ?_
      · simp only [List.map_toArray, List.map_cons, List.map_nil, Array.empty_append, Array.append_empty, hs 39 (by decide), hs 40 (by decide), hs 41 (by decide)]
        rfl
      · refine (line_in a n cap xs r0 r1 r2 r3 r4 r5 r6 r7 r8 r9 r10 (line : Int) H0.out H1.out H5.out H6.out HL0.out HL1.out sf o k hsf EO EK w' (HV.out.under (Own.fin hO))).mono ?_
        rintro e w'' ⟨rfl, hb⟩
        exact ⟨_, rfl, hk w'' hb⟩
    · intro a_ w' l K hO hk
      refine wpOp_of rfl rfl ?_
      exact w_alloc hO rfl zeroG (fun w'' g h => hk w'' g h)
    · intro a_ w' l K hO hk
      refine wpOp_of rfl rfl ?_
      exact w_alloc hO rfl zeroRow (fun w'' g h => hk w'' g h)
    · intro a_ w' l l' g K e1 e2 hO hs hp hk
      refine wpOp_of rfl rfl ?_
      exact w_lay hO rfl e1 e2 hs hp aggG.size (gcells_length _ _) (gcells_length _ _) (li_gone _ _) rfl hk
    · intro a_ w' l l' g K e1 e2 hO hs hp hk
      refine wpOp_of rfl rfl ?_
      exact w_lay hO rfl e1 e2 hs hp aggRow.size (rcells_length _ _ _) (rcells_length _ _ _) (rcells_one _ _ _) rfl hk
    intro w' gA gB hO
    clear HM
    have HM := hO
    clear hO
    (try simp only [Act.put, List.setIfInBounds_toArray, List.set_cons_zero, List.set_cons_succ])
    go_upto_region 10 with fail
    go_loopw [43] (fun iv wr => ∃ j : Nat, j ≤ 256 ∧ iv = .int .i64 (j : Int) ∧ Hid (Own w wr [(gB, 53, rcells sf o k), (gA, 51, gcells gc gf), (g3, 25, rcells (fun i => if i < j then E i else 0) false false), (g2, 25, rcells (fun _ => 0) false false), (g1, 27, [.int .u8 (r0 : Int), .int .u8 (r1 : Int), .int .u8 (r2 : Int), .int .u8 (r3 : Int), .int .u8 (r4 : Int), .int .u8 (r5 : Int), .int .u8 (r6 : Int), .int .u8 (r7 : Int), .int .u8 (r8 : Int), .int .u8 (r9 : Int), .int .u8 (r10 : Int)])])) (fun iv _ => 256 - (intOf iv).toNat)
    case atStart => exact ⟨0, by omega, rfl, by simpa using HM⟩
    case round =>
      clear HM
      obtain ⟨j, hj, rfl, HM⟩ := hrel
      by_cases hlt : j < 256
      · have hlt' : (j : Int) < 256 := by omega
        have HJ := Lib.hid hlt
        obtain ⟨v, hv⟩ : ∃ v, E j = v := ⟨_, rfl⟩
        have HEND : Hid (rcells (upd (fun i => if i < j then E i else 0) j v) false false = rcells (fun i => if i < j + 1 then E i else 0) false false) := Lib.hid (rc_step E false false j v hv)
        obtain ⟨sn, hsn⟩ : ∃ z, Hid ((if sf j = 0 ∨ gf j = true then gc j else sf j) = z) := ⟨_, rfl⟩
        have sl : sn < 32 := by
          have a1 := S32.out j
          have a2 := C32.out j
          rw [← hsn.out]
          split <;> assumption
        have gk : Hid ((sn : Int) % 32 = (sn : Int)) := Lib.hid (by omega)
        have gp : Hid (vget m ys sn % 64 = v) := Lib.hid (by rw [← hv, ← hE.out j, hsn.out]; unfold liP; rw [Nat.mod_eq_of_lt sl])
        clear hlt hj hv sl
        go_wp2_with (first | ((with_reducible apply own_rput (v := v) HM); exact rfl; exact rfl; exact rfl; exact rfl; exact oneU8; exact HJ.out; (first | with_reducible exact .z | with_reducible exact .s .z | with_reducible exact .s (.s .z) | with_reducible exact .s (.s (.s .z))); (first | with_reducible exact .z | with_reducible exact .s .z | with_reducible exact .s (.s .z) | with_reducible exact .s (.s (.s .z))); exact rfl; exact rfl; clear HM; intro w' HM) | ((with_reducible apply own_box HM); exact rfl; (conv => lhs; whnf); exact rfl; exact rfl; (first | (clear tg1 HM; intro w' g1 HM) | (clear tg2 HM; intro w' g2 HM) | (clear tg3 HM; intro w' g3 HM) | (clear tg4 HM; intro w' g4 HM) | (clear HM; intro w' g' HM))) | ((with_reducible apply own_alloc HM); exact rfl; (first | (with_reducible exact zeroPL)); exact rfl; (first | (clear tg1 HM; intro w' g1 HM) | (clear tg2 HM; intro w' g2 HM) | (clear tg3 HM; intro w' g3 HM) | (clear tg4 HM; intro w' g4 HM) | (clear HM; intro w' g' HM))) | ((with_reducible apply own_cell HM); exact rfl; exact rfl; (first | (with_reducible exact one8) | (with_reducible exact oneInt) | (with_reducible exact oneBool)); exact sS; exact dS; exact rfl) | ((with_reducible apply own_load HM); exact rfl; exact rfl; (first | (with_reducible exact agg11)); exact sS; exact dS; exact tS; exact rfl) | ((with_reducible apply own_store HM); exact rfl; exact rfl; (conv => lhs; whnf); exact rfl; exact sS; exact vS; exact sS; (first | (with_reducible exact (agg11).size) | (with_reducible exact (one8).size) | (with_reducible exact (oneInt).size) | (with_reducible exact (oneBool).size)); exact rfl; exact rfl; exact rfl; exact rfl; clear HM; intro w' HM) | (go_at_call 22; (with_reducible refine (seen_at gA gB gc gf sf o k j HJ.out (S32.out j) (C32.out j) sn hsn HM).mono ?_); rintro e w' ⟨rfl, rfl⟩) | (go_at_call 10; (with_reducible refine (paint_at a2 m cap2 ys _ sn v gk gp _ (HV2.out.under (Own.fin HM))).mono ?_); rintro e w' ⟨rfl, hb⟩; replace HM := Lib.hid (HM.out.call hb); clear hb))
        rw [HEND.out] at HM
        go_roundw
        case rel => exact ⟨j + 1, by have := HJ.out; omega, by go_num, HM⟩
        case measure => have := HJ.out; simp [intOf]; omega
      · obtain rfl : j = 256 := by omega
        rw [rc_end] at HM
        clear hlt hj
        have HO : Hid ((rcells sf o k)[256]? = some (.bool o)) := Lib.hid (rcells_over sf o k)
        have HK2 : Hid ((rcells sf o k)[257]? = some (.bool k)) := Lib.hid (rcells_meets sf o k)
        rcases (show s0 = 1 ∨ s0 = 0 by have := S01.out; omega) with q0 | q0
        · have HEND : Hid (rcells (fun i => if i < 8 then bd else E i) false false = rcells C false false) := Lib.hid (rcells_ext fun i hi => by
            rw [← HC.out i]
            by_cases h8 : i < 8
            · rw [if_pos h8, if_pos ⟨h8, q0⟩]
            · rw [if_neg h8, if_neg (by omega)])
          have M0 := M0H.out
          rw [q0] at M0
          clear q0 S01 M0H
          go_upto_region 16 with (first | ((with_reducible apply own_box HM); exact rfl; (conv => lhs; whnf); exact rfl; exact rfl; (first | (clear tg1 HM; intro w' g1 HM) | (clear tg2 HM; intro w' g2 HM) | (clear tg3 HM; intro w' g3 HM) | (clear tg4 HM; intro w' g4 HM) | (clear HM; intro w' g' HM))) | ((with_reducible apply own_alloc HM); exact rfl; (first | (with_reducible exact zeroPL)); exact rfl; (first | (clear tg1 HM; intro w' g1 HM) | (clear tg2 HM; intro w' g2 HM) | (clear tg3 HM; intro w' g3 HM) | (clear tg4 HM; intro w' g4 HM) | (clear HM; intro w' g' HM))) | ((with_reducible apply own_cell HM); exact rfl; exact rfl; (first | (with_reducible exact one8) | (with_reducible exact oneInt) | (with_reducible exact oneBool)); exact sS; exact dS; exact rfl) | ((with_reducible apply own_load HM); exact rfl; exact rfl; (first | (with_reducible exact agg11)); exact sS; exact dS; exact tS; exact rfl) | ((with_reducible apply own_store HM); exact rfl; exact rfl; (conv => lhs; whnf); exact rfl; exact sS; exact vS; exact sS; (first | (with_reducible exact (agg11).size) | (with_reducible exact (one8).size) | (with_reducible exact (oneInt).size) | (with_reducible exact (oneBool).size)); exact rfl; exact rfl; exact rfl; exact rfl; clear HM; intro w' HM) | (go_at_call 19; (with_reducible refine (cover_1 g3 E false false 8 bd 8 hn8 hl8 HM).mono ?_); rintro e w' ⟨rfl, HM'⟩; clear HM; have HM := HM'; clear HM'))
          rw [HEND.out] at HM
          go_upto_region 17 with (first | ((with_reducible apply own_get HM); exact rfl; exact rfl; (with_reducible exact oneBool); (first | with_reducible exact .z | with_reducible exact .s .z | with_reducible exact .s (.s .z) | with_reducible exact .s (.s (.s .z))); (first | exact HO.out | exact HK2.out); exact rfl) | ((with_reducible apply own_rputO HM); exact rfl; exact rfl; exact rfl; exact oneBool; (first | with_reducible exact .z | with_reducible exact .s .z | with_reducible exact .s (.s .z) | with_reducible exact .s (.s (.s .z))); (first | with_reducible exact .z | with_reducible exact .s .z | with_reducible exact .s (.s .z) | with_reducible exact .s (.s (.s .z))); exact rfl; exact rfl; clear HM; intro w' HM) | ((with_reducible apply own_rputC HM); exact rfl; exact rfl; exact rfl; exact oneBool; (first | with_reducible exact .z | with_reducible exact .s .z | with_reducible exact .s (.s .z) | with_reducible exact .s (.s (.s .z))); (first | with_reducible exact .z | with_reducible exact .s .z | with_reducible exact .s (.s .z) | with_reducible exact .s (.s (.s .z))); exact rfl; exact rfl; clear HM; intro w' HM))
          go_wp2_with (first | ((with_reducible apply own_row HM); exact rfl; exact rfl; exact aggPL; (first | with_reducible exact .z | with_reducible exact .s .z | with_reducible exact .s (.s .z) | with_reducible exact .s (.s (.s .z))); exact rfl; exact rcells_length _ _ _) | ((with_reducible apply own_lay HM); exact rfl; exact rfl; exact rfl; exact sS; exact sS; exact aggPL.size; (exact rcells_length _ _ _); (exact rcells_length _ _ _); (exact rcells_one _ _ _); exact rfl; exact rfl; clear HM; intro w' HM) | ((with_reducible apply own_box HM); exact rfl; (conv => lhs; whnf); exact rfl; exact rfl; (first | (clear tg1 HM; intro w' g1 HM) | (clear tg2 HM; intro w' g2 HM) | (clear tg3 HM; intro w' g3 HM) | (clear tg4 HM; intro w' g4 HM) | (clear HM; intro w' g' HM))) | ((with_reducible apply own_alloc HM); exact rfl; (first | (with_reducible exact zeroPL)); exact rfl; (first | (clear tg1 HM; intro w' g1 HM) | (clear tg2 HM; intro w' g2 HM) | (clear tg3 HM; intro w' g3 HM) | (clear tg4 HM; intro w' g4 HM) | (clear HM; intro w' g' HM))) | ((with_reducible apply own_cell HM); exact rfl; exact rfl; (first | (with_reducible exact one8) | (with_reducible exact oneInt) | (with_reducible exact oneBool)); exact sS; exact dS; exact rfl) | ((with_reducible apply own_load HM); exact rfl; exact rfl; (first | (with_reducible exact agg11)); exact sS; exact dS; exact tS; exact rfl) | ((with_reducible apply own_store HM); exact rfl; exact rfl; (conv => lhs; whnf); exact rfl; exact sS; exact vS; exact sS; (first | (with_reducible exact (agg11).size) | (with_reducible exact (one8).size) | (with_reducible exact (oneInt).size) | (with_reducible exact (oneBool).size)); exact rfl; exact rfl; exact rfl; exact rfl; clear HM; intro w' HM))
          refine bodyPost_ret (v := .agg (rcells C o k).toArray) (own_results HM Try.results8 _ rfl (by (first | with_reducible exact .z | with_reducible exact .s .z | with_reducible exact .s (.s .z) | with_reducible exact .s (.s (.s .z)))) (by rw [rcells_length]; exact aggPL)) rfl ⟨rfl, Own.fin HM⟩
        · have HEND : Hid (rcells E false false = rcells C false false) := Lib.hid (rcells_ext fun i hi => by rw [← HC.out i, if_neg (by omega)])
          have M0 := M0H.out
          rw [q0] at M0
          clear q0 S01 M0H
          go_upto_region 16 with (first | ((with_reducible apply own_box HM); exact rfl; (conv => lhs; whnf); exact rfl; exact rfl; (first | (clear tg1 HM; intro w' g1 HM) | (clear tg2 HM; intro w' g2 HM) | (clear tg3 HM; intro w' g3 HM) | (clear tg4 HM; intro w' g4 HM) | (clear HM; intro w' g' HM))) | ((with_reducible apply own_alloc HM); exact rfl; (first | (with_reducible exact zeroPL)); exact rfl; (first | (clear tg1 HM; intro w' g1 HM) | (clear tg2 HM; intro w' g2 HM) | (clear tg3 HM; intro w' g3 HM) | (clear tg4 HM; intro w' g4 HM) | (clear HM; intro w' g' HM))) | ((with_reducible apply own_cell HM); exact rfl; exact rfl; (first | (with_reducible exact one8) | (with_reducible exact oneInt) | (with_reducible exact oneBool)); exact sS; exact dS; exact rfl) | ((with_reducible apply own_load HM); exact rfl; exact rfl; (first | (with_reducible exact agg11)); exact sS; exact dS; exact tS; exact rfl) | ((with_reducible apply own_store HM); exact rfl; exact rfl; (conv => lhs; whnf); exact rfl; exact sS; exact vS; exact sS; (first | (with_reducible exact (agg11).size) | (with_reducible exact (one8).size) | (with_reducible exact (oneInt).size) | (with_reducible exact (oneBool).size)); exact rfl; exact rfl; exact rfl; exact rfl; clear HM; intro w' HM))
          rw [HEND.out] at HM
          go_upto_region 17 with (first | ((with_reducible apply own_get HM); exact rfl; exact rfl; (with_reducible exact oneBool); (first | with_reducible exact .z | with_reducible exact .s .z | with_reducible exact .s (.s .z) | with_reducible exact .s (.s (.s .z))); (first | exact HO.out | exact HK2.out); exact rfl) | ((with_reducible apply own_rputO HM); exact rfl; exact rfl; exact rfl; exact oneBool; (first | with_reducible exact .z | with_reducible exact .s .z | with_reducible exact .s (.s .z) | with_reducible exact .s (.s (.s .z))); (first | with_reducible exact .z | with_reducible exact .s .z | with_reducible exact .s (.s .z) | with_reducible exact .s (.s (.s .z))); exact rfl; exact rfl; clear HM; intro w' HM) | ((with_reducible apply own_rputC HM); exact rfl; exact rfl; exact rfl; exact oneBool; (first | with_reducible exact .z | with_reducible exact .s .z | with_reducible exact .s (.s .z) | with_reducible exact .s (.s (.s .z))); (first | with_reducible exact .z | with_reducible exact .s .z | with_reducible exact .s (.s .z) | with_reducible exact .s (.s (.s .z))); exact rfl; exact rfl; clear HM; intro w' HM))
          go_wp2_with (first | ((with_reducible apply own_row HM); exact rfl; exact rfl; exact aggPL; (first | with_reducible exact .z | with_reducible exact .s .z | with_reducible exact .s (.s .z) | with_reducible exact .s (.s (.s .z))); exact rfl; exact rcells_length _ _ _) | ((with_reducible apply own_lay HM); exact rfl; exact rfl; exact rfl; exact sS; exact sS; exact aggPL.size; (exact rcells_length _ _ _); (exact rcells_length _ _ _); (exact rcells_one _ _ _); exact rfl; exact rfl; clear HM; intro w' HM) | ((with_reducible apply own_box HM); exact rfl; (conv => lhs; whnf); exact rfl; exact rfl; (first | (clear tg1 HM; intro w' g1 HM) | (clear tg2 HM; intro w' g2 HM) | (clear tg3 HM; intro w' g3 HM) | (clear tg4 HM; intro w' g4 HM) | (clear HM; intro w' g' HM))) | ((with_reducible apply own_alloc HM); exact rfl; (first | (with_reducible exact zeroPL)); exact rfl; (first | (clear tg1 HM; intro w' g1 HM) | (clear tg2 HM; intro w' g2 HM) | (clear tg3 HM; intro w' g3 HM) | (clear tg4 HM; intro w' g4 HM) | (clear HM; intro w' g' HM))) | ((with_reducible apply own_cell HM); exact rfl; exact rfl; (first | (with_reducible exact one8) | (with_reducible exact oneInt) | (with_reducible exact oneBool)); exact sS; exact dS; exact rfl) | ((with_reducible apply own_load HM); exact rfl; exact rfl; (first | (with_reducible exact agg11)); exact sS; exact dS; exact tS; exact rfl) | ((with_reducible apply own_store HM); exact rfl; exact rfl; (conv => lhs; whnf); exact rfl; exact sS; exact vS; exact sS; (first | (with_reducible exact (agg11).size) | (with_reducible exact (one8).size) | (with_reducible exact (oneInt).size) | (with_reducible exact (oneBool).size)); exact rfl; exact rfl; exact rfl; exact rfl; clear HM; intro w' HM))
          refine bodyPost_ret (v := .agg (rcells C o k).toArray) (own_results HM Try.results8 _ rfl (by (first | with_reducible exact .z | with_reducible exact .s .z | with_reducible exact .s (.s .z) | with_reducible exact .s (.s (.s .z)))) (by rw [rcells_length]; exact aggPL)) rfl ⟨rfl, Own.fin HM⟩
theorem blt_0 (w : World) : (Instr.build 27 #[]).run Try.prog w = .ok (.agg #[.int .u8 0, .int .u8 0, .int .u8 0, .int .u8 0, .int .u8 0, .int .u8 0, .int .u8 0, .int .u8 0, .int .u8 0, .int .u8 0, .int .u8 0]) w := by kernel_rfl
theorem blt_64 (w : World) : (Instr.build 27 #[(1, .int .u8 64)]).run Try.prog w = .ok (.agg #[.int .u8 0, .int .u8 64, .int .u8 0, .int .u8 0, .int .u8 0, .int .u8 0, .int .u8 0, .int .u8 0, .int .u8 0, .int .u8 0, .int .u8 0]) w := by kernel_rfl
theorem blt_191 (w : World) : (Instr.build 27 #[(1, .int .u8 191)]).run Try.prog w = .ok (.agg #[.int .u8 0, .int .u8 191, .int .u8 0, .int .u8 0, .int .u8 0, .int .u8 0, .int .u8 0, .int .u8 0, .int .u8 0, .int .u8 0, .int .u8 0]) w := by kernel_rfl
theorem draw_al (a2 : Option Addr) (cap2 : Nat) (w : World) (hV2 : ByteRow w a2 32 (upd (fun _ => 0) 16 255)) :
    Calls Try.prog 8 #[.slice none 0 0, .slice a2 32 cap2, .agg #[.int .u8 0, .int .u8 0, .int .u8 0, .int .u8 0, .int .u8 0, .int .u8 0, .int .u8 0, .int .u8 0, .int .u8 0, .int .u8 0, .int .u8 0], .int .i64 0] w fun e w' => ∃ f c, e = .returned (rowV f false c) ∧ Hid (f 0 = 63 ∧ f 255 = 63) ∧ Below w.heap.size w w' :=
  (draw_in none 0 0 (fun _ => 0) a2 32 cap2 (upd (fun _ => 0) 16 255) 0 0 0 0 0 0 0 0 0 0 0 0 (by decide) (by decide) (by decide) (by decide) (by decide) (by decide) (by decide) (by decide) (by decide) 0 rfl _ false _ rfl (by show _ = _; decide) rfl w (ByteRow.nil w none _) hV2).mono fun _ _ ⟨h1, h2⟩ => ⟨_, _, h1, Lib.hid ⟨by decide, by decide⟩, h2⟩
theorem shows_64 (w : World) : Calls Try.prog 18 #[.agg #[.int .u8 0, .int .u8 64, .int .u8 0, .int .u8 0, .int .u8 0, .int .u8 0, .int .u8 0, .int .u8 0, .int .u8 0, .int .u8 0, .int .u8 0]] w fun e w' => e = .returned (.bool true) ∧ Below w.heap.size w w' := shows_at 0 64 0 0 0 0 0 0 0 0 0 (by decide) true (by show _ = _; decide) w
theorem shows_191 (w : World) : Calls Try.prog 18 #[.agg #[.int .u8 0, .int .u8 191, .int .u8 0, .int .u8 0, .int .u8 0, .int .u8 0, .int .u8 0, .int .u8 0, .int .u8 0, .int .u8 0, .int .u8 0]] w fun e w' => e = .returned (.bool false) ∧ Below w.heap.size w w' := shows_at 0 191 0 0 0 0 0 0 0 0 0 (by decide) false (by show _ = _; decide) w
set_option maxRecDepth 100000 in
set_option maxHeartbeats 1600000 in
theorem alive_any (w : World) : Calls Try.prog 9 #[] w fun e w' => e = .returned (.bool true) ∧ Below w.heap.size w w' := by
  have HM := Lib.hid (Own.start w)
  have tg1 : Hid True := trivial
  have tg2 : Hid True := trivial
  have hmk := Lib.hid (made_bytes 32 (by decide))
  have LX : Hid (∀ i, (upd (fun _ => 0) 16 255) i < 256) := Lib.hid (upd_lt (fun _ => by show 0 < 256; decide) 16 (by decide))
  go_enter Try.func9, Try.ntmps9
  go_upto_region 4 with (first | ((with_reducible apply own_makes (cs := b8 32 (fun _ => 0)) (e := 5) (n := 32) HM); exact rfl; exact rfl; exact rfl; exact hmk.out; exact rfl; clear HM; intro w' g1 HM) | ((with_reducible apply own_b8 (i := 16) (v := 255) HM); exact rfl; exact rfl; exact rfl; exact oneU8; decide; exact rfl; exact rfl; clear HM; intro w' HM) | ((with_reducible apply built_by blt_0); exact rfl; (focus (go_simp; done)); exact rfl) | (go_at_call 8; (with_reducible refine (draw_al _ 32 _ (HM.out.byteRow (n := 32) (xs := upd (fun _ => 0) 16 255) .z LX.out)).mono ?_); rintro e w' ⟨fc, kc, rfl, HFG, hb⟩; replace HM := Lib.hid (HM.out.call hb); clear hb) | ((with_reducible apply own_lay HM); exact rfl; exact rfl; exact rfl; exact sS; exact sS; exact aggPL.size; (exact rcells_length _ _ _); (exact rcells_length _ _ _); (exact rcells_one _ _ _); exact rfl; exact rfl; clear HM; intro w' HM) | ((with_reducible apply own_box HM); exact rfl; (conv => lhs; whnf); exact rfl; exact rfl; (first | (clear tg1 HM; intro w' g1 HM) | (clear tg2 HM; intro w' g2 HM) | (clear tg3 HM; intro w' g3 HM) | (clear tg4 HM; intro w' g4 HM) | (clear HM; intro w' g' HM))) | ((with_reducible apply own_alloc HM); exact rfl; (first | (with_reducible exact zeroPL)); exact rfl; (first | (clear tg1 HM; intro w' g1 HM) | (clear tg2 HM; intro w' g2 HM) | (clear tg3 HM; intro w' g3 HM) | (clear tg4 HM; intro w' g4 HM) | (clear HM; intro w' g' HM))) | ((with_reducible apply own_cell HM); exact rfl; exact rfl; (first | (with_reducible exact oneInt) | (with_reducible exact oneBool) | (with_reducible exact oneU8) | (with_reducible exact oneBs)); exact sS; exact dS; exact rfl) | ((with_reducible apply own_load HM); exact rfl; exact rfl; (first | (with_reducible exact agg11)); exact sS; exact dS; exact tS; exact rfl) | ((with_reducible apply own_store HM); exact rfl; exact rfl; (conv => lhs; whnf); exact rfl; exact sS; exact vS; exact sS; (first | (with_reducible exact (agg11).size) | (with_reducible exact (oneInt).size) | (with_reducible exact (oneBool).size) | (with_reducible exact (oneU8).size) | (with_reducible exact (oneBs).size)); exact rfl; exact rfl; exact rfl; exact rfl; clear HM; intro w' HM))
  have G0 : Hid ((rcells fc false kc)[0]? = some (.int .u8 63)) := Lib.hid (by rw [rcells_color _ _ _ 0 (by decide), HFG.out.1]; rfl)
  have G1 : Hid ((rcells fc false kc)[255]? = some (.int .u8 63)) := Lib.hid (by rw [rcells_color _ _ _ 255 (by decide), HFG.out.2]; rfl)
  have G2 : Hid ((rcells fc false kc)[256]? = some (.bool false)) := Lib.hid (rcells_over _ _ _)
  go_wp2_with (first | ((with_reducible apply own_get HM); exact rfl; exact rfl; (first | (with_reducible exact oneU8) | (with_reducible exact oneBool)); (first | with_reducible exact .z | with_reducible exact .s .z | with_reducible exact .s (.s .z) | with_reducible exact .s (.s (.s .z))); (first | exact G0.out | exact G1.out | exact G2.out); exact rfl) | ((with_reducible apply built_by blt_64); exact rfl; (focus (go_simp; done)); exact rfl) | ((with_reducible apply built_by blt_191); exact rfl; (focus (go_simp; done)); exact rfl) | (go_at_call 18; (with_reducible refine (shows_64 _).mono ?_); rintro e w' ⟨rfl, hb⟩; replace HM := Lib.hid (HM.out.call hb); clear hb) | (go_at_call 18; (with_reducible refine (shows_191 _).mono ?_); rintro e w' ⟨rfl, hb⟩; replace HM := Lib.hid (HM.out.call hb); clear hb))
  go_ret
  exact ⟨rfl, Own.fin HM⟩
end Go.Proofs.Ytijjigacmmhloaa
