import Derived.Test.YtijjigacmmhloaaQ18
import Derived.ChangeArms
import Derived.Deep.Strs
namespace Go.Proofs.Ytijjigacmmhloaa
open Go.RowKit
set_option maxRecDepth 100000 in
set_option maxHeartbeats 1600000 in
theorem draws_g0 (a1 a2 a3 : Option Addr) (n1 c1 n2 c2 n3 c3 : Nat) (r0 r1 r2 r3 r4 r5 r6 r7 r8 r9 r10 : Nat) (L : Int) (w : World) (l1 : 64 < n1)  :
    Calls Try.prog 4 #[.agg #[.slice a1 n1 c1, .slice a2 n2 c2, .slice a3 n3 c3], regsV r0 r1 r2 r3 r4 r5 r6 r7 r8 r9 r10, .int .i64 L] w fun e w' => e = .returned (.bool true) ∧ Below w.heap.size w w' := by
  have HM := Lib.hid (Own.start w)
  have tg1 : Hid True := trivial
  have tg2 : Hid True := trivial
  have B1 := Lib.hid l1
  clear l1
  go_enter Try.func4, Try.ntmps4
  go_wp2_with (first | (go_at_call 9; (with_reducible refine (alive_any _).mono ?_); rintro e w' ⟨rfl, hb⟩; replace HM := Lib.hid (HM.out.call hb); clear hb) | (go_at_call 11; (with_reducible refine (great_0 a1 a2 a3 n1 c1 n2 c2 n3 c3 _ B1.out).mono ?_); rintro e w' ⟨rfl, hb⟩; replace HM := Lib.hid (HM.out.call hb); clear hb) | ((with_reducible apply own_box HM); exact rfl; (conv => lhs; whnf); exact rfl; exact rfl; (first | (clear tg1 HM; intro w' g1 HM) | (clear tg2 HM; intro w' g2 HM) | (clear tg3 HM; intro w' g3 HM) | (clear tg4 HM; intro w' g4 HM) | (clear HM; intro w' g' HM))) | ((with_reducible apply own_alloc HM); exact rfl; (first | (with_reducible exact zeroPL) | (with_reducible exact zero11)); exact rfl; (first | (clear tg1 HM; intro w' g1 HM) | (clear tg2 HM; intro w' g2 HM) | (clear tg3 HM; intro w' g3 HM) | (clear tg4 HM; intro w' g4 HM) | (clear HM; intro w' g' HM))) | ((with_reducible apply own_cell HM); exact rfl; exact rfl; (first | (with_reducible exact oneInt) | (with_reducible exact oneBool) | (with_reducible exact oneU8) | (with_reducible exact oneBs) | (with_reducible exact oneTs)); exact sS; exact dS; exact rfl) | ((with_reducible apply own_load HM); exact rfl; exact rfl; (first | (with_reducible exact aggS3) | (with_reducible exact agg11)); exact sS; exact dS; exact tS; exact rfl) | ((with_reducible apply own_store HM); exact rfl; exact rfl; (conv => lhs; whnf); exact rfl; exact sS; exact vS; exact sS; (first | (with_reducible exact (aggS3).size) | (with_reducible exact (agg11).size) | (with_reducible exact (oneInt).size) | (with_reducible exact (oneBool).size) | (with_reducible exact (oneU8).size) | (with_reducible exact (oneBs).size) | (with_reducible exact (oneTs).size)); exact rfl; exact rfl; exact rfl; exact rfl; clear HM; intro w' HM))
  go_ret
  exact ⟨rfl, Own.fin HM⟩
set_option maxRecDepth 100000 in
set_option maxHeartbeats 1600000 in
theorem draws_g1 (a1 a2 a3 : Option Addr) (n1 c1 n2 c2 n3 c3 : Nat) (r0 r1 r2 r3 r4 r5 r6 r7 r8 r9 r10 : Nat) (L : Int) (w : World) (l1 : n1 ≤ 64) (l2 : 300 < n2)  :
    Calls Try.prog 4 #[.agg #[.slice a1 n1 c1, .slice a2 n2 c2, .slice a3 n3 c3], regsV r0 r1 r2 r3 r4 r5 r6 r7 r8 r9 r10, .int .i64 L] w fun e w' => e = .returned (.bool true) ∧ Below w.heap.size w w' := by
  have HM := Lib.hid (Own.start w)
  have tg1 : Hid True := trivial
  have tg2 : Hid True := trivial
  have B1 := Lib.hid l1
  have B2 := Lib.hid l2
  clear l1 l2
  go_enter Try.func4, Try.ntmps4
  go_wp2_with (first | (go_at_call 9; (with_reducible refine (alive_any _).mono ?_); rintro e w' ⟨rfl, hb⟩; replace HM := Lib.hid (HM.out.call hb); clear hb) | (go_at_call 11; (with_reducible refine (great_1 a1 a2 a3 n1 c1 n2 c2 n3 c3 _ B1.out B2.out).mono ?_); rintro e w' ⟨rfl, hb⟩; replace HM := Lib.hid (HM.out.call hb); clear hb) | ((with_reducible apply own_box HM); exact rfl; (conv => lhs; whnf); exact rfl; exact rfl; (first | (clear tg1 HM; intro w' g1 HM) | (clear tg2 HM; intro w' g2 HM) | (clear tg3 HM; intro w' g3 HM) | (clear tg4 HM; intro w' g4 HM) | (clear HM; intro w' g' HM))) | ((with_reducible apply own_alloc HM); exact rfl; (first | (with_reducible exact zeroPL) | (with_reducible exact zero11)); exact rfl; (first | (clear tg1 HM; intro w' g1 HM) | (clear tg2 HM; intro w' g2 HM) | (clear tg3 HM; intro w' g3 HM) | (clear tg4 HM; intro w' g4 HM) | (clear HM; intro w' g' HM))) | ((with_reducible apply own_cell HM); exact rfl; exact rfl; (first | (with_reducible exact oneInt) | (with_reducible exact oneBool) | (with_reducible exact oneU8) | (with_reducible exact oneBs) | (with_reducible exact oneTs)); exact sS; exact dS; exact rfl) | ((with_reducible apply own_load HM); exact rfl; exact rfl; (first | (with_reducible exact aggS3) | (with_reducible exact agg11)); exact sS; exact dS; exact tS; exact rfl) | ((with_reducible apply own_store HM); exact rfl; exact rfl; (conv => lhs; whnf); exact rfl; exact sS; exact vS; exact sS; (first | (with_reducible exact (aggS3).size) | (with_reducible exact (agg11).size) | (with_reducible exact (oneInt).size) | (with_reducible exact (oneBool).size) | (with_reducible exact (oneU8).size) | (with_reducible exact (oneBs).size) | (with_reducible exact (oneTs).size)); exact rfl; exact rfl; exact rfl; exact rfl; clear HM; intro w' HM))
  go_ret
  exact ⟨rfl, Own.fin HM⟩
set_option maxRecDepth 100000 in
set_option maxHeartbeats 1600000 in
theorem draws_g2 (a1 a2 a3 : Option Addr) (n1 c1 n2 c2 n3 c3 : Nat) (r0 r1 r2 r3 r4 r5 r6 r7 r8 r9 r10 : Nat) (L : Int) (w : World) (l1 : n1 ≤ 64) (l2 : n2 ≤ 300) (l3 : 100 < n3)  :
    Calls Try.prog 4 #[.agg #[.slice a1 n1 c1, .slice a2 n2 c2, .slice a3 n3 c3], regsV r0 r1 r2 r3 r4 r5 r6 r7 r8 r9 r10, .int .i64 L] w fun e w' => e = .returned (.bool true) ∧ Below w.heap.size w w' := by
  have HM := Lib.hid (Own.start w)
  have tg1 : Hid True := trivial
  have tg2 : Hid True := trivial
  have B1 := Lib.hid l1
  have B2 := Lib.hid l2
  have B3 := Lib.hid l3
  clear l1 l2 l3
  go_enter Try.func4, Try.ntmps4
  go_wp2_with (first | (go_at_call 9; (with_reducible refine (alive_any _).mono ?_); rintro e w' ⟨rfl, hb⟩; replace HM := Lib.hid (HM.out.call hb); clear hb) | (go_at_call 11; (with_reducible refine (great_2 a1 a2 a3 n1 c1 n2 c2 n3 c3 _ B1.out B2.out B3.out).mono ?_); rintro e w' ⟨rfl, hb⟩; replace HM := Lib.hid (HM.out.call hb); clear hb) | ((with_reducible apply own_box HM); exact rfl; (conv => lhs; whnf); exact rfl; exact rfl; (first | (clear tg1 HM; intro w' g1 HM) | (clear tg2 HM; intro w' g2 HM) | (clear tg3 HM; intro w' g3 HM) | (clear tg4 HM; intro w' g4 HM) | (clear HM; intro w' g' HM))) | ((with_reducible apply own_alloc HM); exact rfl; (first | (with_reducible exact zeroPL) | (with_reducible exact zero11)); exact rfl; (first | (clear tg1 HM; intro w' g1 HM) | (clear tg2 HM; intro w' g2 HM) | (clear tg3 HM; intro w' g3 HM) | (clear tg4 HM; intro w' g4 HM) | (clear HM; intro w' g' HM))) | ((with_reducible apply own_cell HM); exact rfl; exact rfl; (first | (with_reducible exact oneInt) | (with_reducible exact oneBool) | (with_reducible exact oneU8) | (with_reducible exact oneBs) | (with_reducible exact oneTs)); exact sS; exact dS; exact rfl) | ((with_reducible apply own_load HM); exact rfl; exact rfl; (first | (with_reducible exact aggS3) | (with_reducible exact agg11)); exact sS; exact dS; exact tS; exact rfl) | ((with_reducible apply own_store HM); exact rfl; exact rfl; (conv => lhs; whnf); exact rfl; exact sS; exact vS; exact sS; (first | (with_reducible exact (aggS3).size) | (with_reducible exact (agg11).size) | (with_reducible exact (oneInt).size) | (with_reducible exact (oneBool).size) | (with_reducible exact (oneU8).size) | (with_reducible exact (oneBs).size) | (with_reducible exact (oneTs).size)); exact rfl; exact rfl; exact rfl; exact rfl; clear HM; intro w' HM))
  go_ret
  exact ⟨rfl, Own.fin HM⟩
set_option maxRecDepth 100000 in
set_option maxHeartbeats 6400000 in
theorem draws_in (a1 a2 a3 : Option Addr) (n1 c1 n2 c2 n3 c3 : Nat) (sp : Nat → Nat → Nat) (tl cl : Nat → Nat) (r0 r1 r2 r3 r4 r5 r6 r7 r8 r9 r10 line : Nat) (h0 : r0 < 256) (hr1 : r1 < 256) (hr2 : r2 < 256) (h5 : r5 < 256) (h6 : r6 < 256) (h7 : r7 < 256) (h8 : r8 < 256) (h9 : r9 < 256) (hl : line < 192) (w : World) (h1 : TriRow w a1 n1 sp) (h2 : ByteRow w a2 n2 tl) (h3 : ByteRow w a3 n3 cl) (l1 : n1 ≤ 64) (l2 : n2 ≤ 300) (l3 : n3 ≤ 100) :
    Calls Try.prog 4 #[.agg #[.slice a1 n1 c1, .slice a2 n2 c2, .slice a3 n3 c3], regsV r0 r1 r2 r3 r4 r5 r6 r7 r8 r9 r10, .int .i64 (line : Int)] w fun e w' => e = .returned (.bool true) ∧ Below w.heap.size w w' := by
  have HM := Lib.hid (Own.start w)
  have tg1 : Hid True := trivial
  have tg2 : Hid True := trivial
  have tg3 : Hid True := trivial
  have HT1 := Lib.hid h1
  have HT2 := Lib.hid h2
  have HT3 := Lib.hid h3
  have B1 := Lib.hid l1
  have B2 := Lib.hid l2
  have B3 := Lib.hid l3
  obtain ⟨b, HB5⟩ : ∃ b, Hid (spBase r5 = b) := ⟨_, rfl⟩
  have H0 := Lib.hid h0
  have H1 := Lib.hid hr1
  have H2 := Lib.hid hr2
  have H5 := Lib.hid h5
  have H6 := Lib.hid h6
  have H7 := Lib.hid h7
  have H8 := Lib.hid h8
  have H9 := Lib.hid h9
  have HL := Lib.hid hl
  have k1 : ¬ (line : Int) < 0 := by omega
  have k2 : (line : Int) < 192 := by omega
  have k3 : ¬ (191 : Int) < (line : Int) := by omega
  clear h1 h2 h3 l1 l2 l3 h0 hr1 hr2 h5 h6 h7 h8 h9 hl
  go_enter Try.func4, Try.ntmps4
  go_upto_region 6 with (first | (go_at_call 9; (with_reducible refine (alive_any _).mono ?_); rintro e w' ⟨rfl, hb⟩; replace HM := Lib.hid (HM.out.call hb); clear hb) | (go_at_call 11; (with_reducible refine (great_3 a1 a2 a3 n1 c1 n2 c2 n3 c3 _ B1.out B2.out B3.out).mono ?_); rintro e w' ⟨rfl, hb⟩; replace HM := Lib.hid (HM.out.call hb); clear hb) | (go_at_call 12; (with_reducible refine (build_any a1 a2 a3 n1 c1 n2 c2 n3 c3 sp tl cl r0 r1 r2 r3 r4 r5 r6 r7 r8 r9 r10 b H5.out HB5 _ (HT1.out.under (Own.fin HM)) (HT2.out.under (Own.fin HM)) (HT3.out.under (Own.fin HM)) B1.out B2.out B3.out).mono ?_); rintro e w' ⟨gv, gw, ys, zs, rfl, hg, hg2, hne, hW, hW2, HYZ, hb⟩; have HM' := Lib.hid (HM.out.plus2 hb hg2 hW2 hg hW hne); clear HM hb hg hg2 hne hW hW2; have HM := HM'; clear HM') | ((with_reducible apply own_box HM); exact rfl; (conv => lhs; whnf); exact rfl; exact rfl; (first | (clear tg1 HM; intro w' g1 HM) | (clear tg2 HM; intro w' g2 HM) | (clear tg3 HM; intro w' g3 HM) | (clear tg4 HM; intro w' g4 HM) | (clear HM; intro w' g' HM))) | ((with_reducible apply own_alloc HM); exact rfl; (first | (with_reducible exact zeroPL) | (with_reducible exact zero11)); exact rfl; (first | (clear tg1 HM; intro w' g1 HM) | (clear tg2 HM; intro w' g2 HM) | (clear tg3 HM; intro w' g3 HM) | (clear tg4 HM; intro w' g4 HM) | (clear HM; intro w' g' HM))) | ((with_reducible apply own_cell HM); exact rfl; exact rfl; (first | (with_reducible exact oneInt) | (with_reducible exact oneBool) | (with_reducible exact oneU8) | (with_reducible exact oneBs) | (with_reducible exact oneTs)); exact sS; exact dS; exact rfl) | ((with_reducible apply own_load HM); exact rfl; exact rfl; (first | (with_reducible exact aggS3) | (with_reducible exact agg11)); exact sS; exact dS; exact tS; exact rfl) | ((with_reducible apply own_store HM); exact rfl; exact rfl; (conv => lhs; whnf); exact rfl; exact sS; exact vS; exact sS; (first | (with_reducible exact (aggS3).size) | (with_reducible exact (agg11).size) | (with_reducible exact (oneInt).size) | (with_reducible exact (oneBool).size) | (with_reducible exact (oneU8).size) | (with_reducible exact (oneBs).size) | (with_reducible exact (oneTs).size)); exact rfl; exact rfl; exact rfl; exact rfl; clear HM; intro w' HM))
  obtain ⟨f, hf⟩ : ∃ z, Hid (liC 16384 ys 32 zs r0 r1 r2 r5 r6 r7 r8 r9 line = z) := ⟨_, rfl⟩
  obtain ⟨o, ho⟩ : ∃ z, Hid (liO 16384 ys r1 r5 (line : Int) = z) := ⟨_, rfl⟩
  obtain ⟨c, hc⟩ : ∃ z, Hid (liK 16384 ys r0 r1 r5 r6 (line : Int) = z) := ⟨_, rfl⟩
  have F64 : Hid (∀ x, f x < 64) := Lib.hid fun x => by rw [← hf.out]; exact liC_lt _ _ _ _ _ _ _ _ _ _ _ _ _ _
  obtain ⟨T, hT⟩ : ∃ T, Hid (tbx 256 f = T) := ⟨_, rfl⟩
  have HC1 : Hid (∀ i, i < 256 → (rcells f o c)[i]? = some (.int .u8 (f i : Int))) := Lib.hid fun i hi => rcells_color f o c i hi
  have HC2 : Hid (∀ i, i < 256 → (b8 256 f)[i]? = some (.int .u8 (f i : Int))) := Lib.hid fun i hi => b8_get 256 f i hi
  have GO : Hid ((rcells f o c)[256]? = some (.bool o)) := Lib.hid (rcells_over f o c)
  have GK : Hid ((rcells f o c)[257]? = some (.bool c)) := Lib.hid (rcells_meets f o c)
  go_upto_region 8 with (first | (go_at_call 8; (with_reducible refine (draw_in (some ⟨gv, 0, none⟩) 16384 16384 ys (some ⟨gw, 0, none⟩) 32 32 zs r0 r1 r2 r3 r4 r5 r6 r7 r8 r9 r10 line H0.out H1.out H2.out H5.out H6.out H7.out H8.out H9.out HL.out (line : Int) (Lib.hid rfl) f o c hf ho hc _ (HM.out.byteRow (.s .z) HYZ.out.1) (HM.out.byteRow .z HYZ.out.2.1)).mono ?_); rintro e w' ⟨rfl, hb⟩; replace HM := Lib.hid (HM.out.call hb); clear hb) | ((with_reducible apply own_alloc HM); exact rfl; (with_reducible exact zeroPL); exact rfl; clear HM; intro w' gp HM) | ((with_reducible apply own_lay HM); exact rfl; exact rfl; exact rfl; exact sS; exact sS; exact aggPL.size; (exact rcells_length _ _ _); (exact rcells_length _ _ _); (exact rcells_one _ _ _); exact rfl; exact rfl; clear HM; intro w' HM) | ((with_reducible apply own_box HM); exact rfl; (conv => lhs; whnf); exact rfl; exact rfl; (first | (clear tg1 HM; intro w' g1 HM) | (clear tg2 HM; intro w' g2 HM) | (clear tg3 HM; intro w' g3 HM) | (clear tg4 HM; intro w' g4 HM) | (clear HM; intro w' g' HM))) | ((with_reducible apply own_alloc HM); exact rfl; (first | (with_reducible exact zeroPL) | (with_reducible exact zero11)); exact rfl; (first | (clear tg1 HM; intro w' g1 HM) | (clear tg2 HM; intro w' g2 HM) | (clear tg3 HM; intro w' g3 HM) | (clear tg4 HM; intro w' g4 HM) | (clear HM; intro w' g' HM))) | ((with_reducible apply own_cell HM); exact rfl; exact rfl; (first | (with_reducible exact oneInt) | (with_reducible exact oneBool) | (with_reducible exact oneU8) | (with_reducible exact oneBs) | (with_reducible exact oneTs)); exact sS; exact dS; exact rfl) | ((with_reducible apply own_load HM); exact rfl; exact rfl; (first | (with_reducible exact aggS3) | (with_reducible exact agg11)); exact sS; exact dS; exact tS; exact rfl) | ((with_reducible apply own_store HM); exact rfl; exact rfl; (conv => lhs; whnf); exact rfl; exact sS; exact vS; exact sS; (first | (with_reducible exact (aggS3).size) | (with_reducible exact (agg11).size) | (with_reducible exact (oneInt).size) | (with_reducible exact (oneBool).size) | (with_reducible exact (oneU8).size) | (with_reducible exact (oneBs).size) | (with_reducible exact (oneTs).size)); exact rfl; exact rfl; exact rfl; exact rfl; clear HM; intro w' HM))
  go_loopw [10] (fun xv wr => ∃ x : Nat, x ≤ 256 ∧ xv = .int .i64 (x : Int) ∧ Hid (Own w wr ((gp, 25, rcells f o c) :: (gw, 5, b8 32 zs) :: (gv, 5, b8 16384 ys) :: (g2, 27, [.int .u8 (r0 : Int), .int .u8 (r1 : Int), .int .u8 (r2 : Int), .int .u8 (r3 : Int), .int .u8 (r4 : Int), .int .u8 (r5 : Int), .int .u8 (r6 : Int), .int .u8 (r7 : Int), .int .u8 (r8 : Int), .int .u8 (r9 : Int), .int .u8 (r10 : Int)]) :: (g1, 32, [.slice a1 n1 c1, .slice a2 n2 c2, .slice a3 n3 c3]) :: []))) (fun xv _ => 256 - (intOf xv).toNat)
  case atStart => exact ⟨0, by omega, rfl, HM⟩
  case round =>
    clear HM
    obtain ⟨x, hx, rfl, HM⟩ := hrel
    by_cases hlt : x < 256
    · have hlt' : (x : Int) < 256 := by omega
      have HX := Lib.hid hlt
      obtain ⟨v, hv'⟩ : ∃ v, f x = v := ⟨_, rfl⟩
      have hv : Hid (liC 16384 ys 32 zs r0 r1 r2 r5 r6 r7 r8 r9 line x = v) := Lib.hid (by rw [← hv', ← hf.out])
      have HG : Hid ((rcells f o c)[x]? = some (.int .u8 (v : Int))) := Lib.hid (by rw [rcells_color f o c x hlt, hv'])
      have v64 : v < 64 := hv' ▸ F64.out x
      have V1 : ((63 : Int) < (v : Int)) = False := eq_false (by omega)
      have V2 : (63 < v) = False := eq_false (by omega)
      clear hlt hx hv' v64
      go_upto_region 10 with (first | ((with_reducible apply own_box HM); exact rfl; (conv => lhs; whnf); exact rfl; exact rfl; (first | (clear tg1 HM; intro w' g1 HM) | (clear tg2 HM; intro w' g2 HM) | (clear tg3 HM; intro w' g3 HM) | (clear tg4 HM; intro w' g4 HM) | (clear HM; intro w' g' HM))) | ((with_reducible apply own_alloc HM); exact rfl; (first | (with_reducible exact zeroPL) | (with_reducible exact zero11)); exact rfl; (first | (clear tg1 HM; intro w' g1 HM) | (clear tg2 HM; intro w' g2 HM) | (clear tg3 HM; intro w' g3 HM) | (clear tg4 HM; intro w' g4 HM) | (clear HM; intro w' g' HM))) | ((with_reducible apply own_cell HM); exact rfl; exact rfl; (first | (with_reducible exact oneInt) | (with_reducible exact oneBool) | (with_reducible exact oneU8) | (with_reducible exact oneBs) | (with_reducible exact oneTs)); exact sS; exact dS; exact rfl) | ((with_reducible apply own_load HM); exact rfl; exact rfl; (first | (with_reducible exact aggS3) | (with_reducible exact agg11)); exact sS; exact dS; exact tS; exact rfl) | ((with_reducible apply own_store HM); exact rfl; exact rfl; (conv => lhs; whnf); exact rfl; exact sS; exact vS; exact sS; (first | (with_reducible exact (aggS3).size) | (with_reducible exact (agg11).size) | (with_reducible exact (oneInt).size) | (with_reducible exact (oneBool).size) | (with_reducible exact (oneU8).size) | (with_reducible exact (oneBs).size) | (with_reducible exact (oneTs).size)); exact rfl; exact rfl; exact rfl; exact rfl; clear HM; intro w' HM))
      (refine own_region HM (by kernel_rfl) (by kernel_rfl) ?_; (try simp only [Act.put, List.setIfInBounds_toArray, List.set_cons_zero, List.set_cons_succ]); repeat ((fail_if_success (with_reducible refine wpQuiet_nil ?_)); first | go_big_quiet_skip | (go_big_quiet_want; first | ((with_reducible apply quiet_get); exact rfl; exact bS3; (first | with_reducible exact .z | with_reducible exact .s .z | with_reducible exact .s (.s .z) | with_reducible exact .s (.s (.s .z)) | with_reducible exact .s (.s (.s (.s .z))) | with_reducible exact .s (.s (.s (.s (.s .z)))) | with_reducible exact .s (.s (.s (.s (.s (.s .z))))) | with_reducible exact HSA.out | with_reducible exact HSB.out | with_reducible exact HSC.out | with_reducible exact HSD.out); (first | exact HG.out); go_big_quiet_op; go_big_quiet_on) | ((with_reducible apply quiet_load); exact rfl; (first | (with_reducible exact agg11)); exact sS; exact dS; exact tS; go_big_quiet_op; go_big_quiet_on) | (go_big_quiet_op; go_big_quiet_on) | ((with_reducible apply quiet_call); exact fun w => rfl; (focus (go_simp; all_goals with_reducible rfl)); (intro wq HQ; first | (with_reducible exact rat19_in (some ⟨gv, 0, none⟩) 16384 16384 ys (some ⟨gw, 0, none⟩) 32 32 zs r0 r1 r2 r3 r4 r5 r6 r7 r8 r9 r10 line x H0.out H1.out H2.out H5.out H6.out H7.out H8.out H9.out HL.out HX.out v hv _ (HQ.out.byteRow (.s (.s .z)) HYZ.out.1) (HQ.out.byteRow (.s .z) HYZ.out.2.1))); go_big_quiet_op; go_big_quiet_on) | (go_big_quiet_op; go_big_quiet_on) | (go_big_quiet_op; refine ⟨_, fun _ _ => rfl, ?_⟩; go_big_quiet_on))))
      refine wpQuiet_nil ?_
      intro w' HM'
      clear HM; have HM := HM'; clear HM'
      go_wp2_with (first | ((with_reducible apply own_box HM); exact rfl; (conv => lhs; whnf); exact rfl; exact rfl; (first | (clear tg1 HM; intro w' g1 HM) | (clear tg2 HM; intro w' g2 HM) | (clear tg3 HM; intro w' g3 HM) | (clear tg4 HM; intro w' g4 HM) | (clear HM; intro w' g' HM))) | ((with_reducible apply own_alloc HM); exact rfl; (first | (with_reducible exact zeroPL) | (with_reducible exact zero11)); exact rfl; (first | (clear tg1 HM; intro w' g1 HM) | (clear tg2 HM; intro w' g2 HM) | (clear tg3 HM; intro w' g3 HM) | (clear tg4 HM; intro w' g4 HM) | (clear HM; intro w' g' HM))) | ((with_reducible apply own_cell HM); exact rfl; exact rfl; (first | (with_reducible exact oneInt) | (with_reducible exact oneBool) | (with_reducible exact oneU8) | (with_reducible exact oneBs) | (with_reducible exact oneTs)); exact sS; exact dS; exact rfl) | ((with_reducible apply own_load HM); exact rfl; exact rfl; (first | (with_reducible exact aggS3) | (with_reducible exact agg11)); exact sS; exact dS; exact tS; exact rfl) | ((with_reducible apply own_store HM); exact rfl; exact rfl; (conv => lhs; whnf); exact rfl; exact sS; exact vS; exact sS; (first | (with_reducible exact (aggS3).size) | (with_reducible exact (agg11).size) | (with_reducible exact (oneInt).size) | (with_reducible exact (oneBool).size) | (with_reducible exact (oneU8).size) | (with_reducible exact (oneBs).size) | (with_reducible exact (oneTs).size)); exact rfl; exact rfl; exact rfl; exact rfl; clear HM; intro w' HM))
      go_roundw
      case rel => exact ⟨x + 1, by have := HX.out; omega, by go_num, HM⟩
      case measure => have := HX.out; simp [intOf]; omega
    · obtain rfl : x = 256 := by omega
      go_upto_region 16 with (first | (go_at_call 14; (with_reducible refine (rtold_in (some ⟨gv, 0, none⟩) 16384 16384 ys r0 r1 r2 r3 r4 r5 r6 r7 r8 r9 r10 line H0.out H1.out H2.out H5.out H6.out H7.out H8.out H9.out HL.out c o hc ho _ (HM.out.byteRow (.s (.s .z)) HYZ.out.1)).mono ?_); rintro e w' ⟨rfl, hb⟩; replace HM := Lib.hid (HM.out.call hb); clear hb) | (go_at_call 15; (with_reducible refine (rrow19_in (some ⟨gv, 0, none⟩) 16384 16384 ys (some ⟨gw, 0, none⟩) 32 32 zs r0 r1 r2 r3 r4 r5 r6 r7 r8 r9 r10 line H0.out H1.out H2.out H5.out H6.out H7.out H8.out H9.out HL.out f hf c o hc ho _ (HM.out.byteRow (.s (.s .z)) HYZ.out.1) (HM.out.byteRow (.s .z) HYZ.out.2.1)).mono ?_); rintro e w' ⟨gq, rfl, hg, hW, hb⟩; have HM' := Lib.hid (HM.out.plus hb hg hW); clear HM hb hg hW; have HM := HM'; clear HM') | ((with_reducible apply own_box HM); exact rfl; (conv => lhs; whnf); exact rfl; exact rfl; (first | (clear tg1 HM; intro w' g1 HM) | (clear tg2 HM; intro w' g2 HM) | (clear tg3 HM; intro w' g3 HM) | (clear tg4 HM; intro w' g4 HM) | (clear HM; intro w' g' HM))) | ((with_reducible apply own_alloc HM); exact rfl; (first | (with_reducible exact zeroPL) | (with_reducible exact zero11)); exact rfl; (first | (clear tg1 HM; intro w' g1 HM) | (clear tg2 HM; intro w' g2 HM) | (clear tg3 HM; intro w' g3 HM) | (clear tg4 HM; intro w' g4 HM) | (clear HM; intro w' g' HM))) | ((with_reducible apply own_cell HM); exact rfl; exact rfl; (first | (with_reducible exact oneInt) | (with_reducible exact oneBool) | (with_reducible exact oneU8) | (with_reducible exact oneBs) | (with_reducible exact oneTs)); exact sS; exact dS; exact rfl) | ((with_reducible apply own_load HM); exact rfl; exact rfl; (first | (with_reducible exact aggS3) | (with_reducible exact agg11)); exact sS; exact dS; exact tS; exact rfl) | ((with_reducible apply own_store HM); exact rfl; exact rfl; (conv => lhs; whnf); exact rfl; exact sS; exact vS; exact sS; (first | (with_reducible exact (aggS3).size) | (with_reducible exact (agg11).size) | (with_reducible exact (oneInt).size) | (with_reducible exact (oneBool).size) | (with_reducible exact (oneU8).size) | (with_reducible exact (oneBs).size) | (with_reducible exact (oneTs).size)); exact rfl; exact rfl; exact rfl; exact rfl; clear HM; intro w' HM))
      (refine own_region HM (by kernel_rfl) (by kernel_rfl) ?_; (try simp only [Act.put, List.setIfInBounds_toArray, List.set_cons_zero, List.set_cons_succ]); repeat ((fail_if_success (with_reducible refine wpQuiet_nil ?_)); first | go_big_quiet_skip | (go_big_quiet_want; first | ((with_reducible apply quiet_get); exact rfl; exact bS3; (first | with_reducible exact .z | with_reducible exact .s .z | with_reducible exact .s (.s .z) | with_reducible exact .s (.s (.s .z)) | with_reducible exact .s (.s (.s (.s .z))) | with_reducible exact .s (.s (.s (.s (.s .z)))) | with_reducible exact .s (.s (.s (.s (.s (.s .z))))) | with_reducible exact HSA.out | with_reducible exact HSB.out | with_reducible exact HSC.out | with_reducible exact HSD.out); (first | exact GO.out | exact GK.out); go_big_quiet_op; go_big_quiet_on) | ((with_reducible apply quiet_txt hT.out); exact rfl; exact sS; (first | exact HC1.out | exact HC2.out); go_big_quiet_op; go_big_quiet_on) | (go_big_quiet_op; go_big_quiet_on) | (go_big_quiet_op; go_big_quiet_on) | (go_big_quiet_op; refine ⟨_, fun _ _ => rfl, ?_⟩; go_big_quiet_on))))
      refine wpQuiet_nil ?_
      intro w' HM'
      clear HM; have HM := HM'; clear HM'
      go_wp2_with fail
      go_ret
      exact ⟨rfl, Own.fin HM⟩
set_option maxRecDepth 100000 in
set_option maxHeartbeats 6400000 in
theorem draws_o0 (a1 a2 a3 : Option Addr) (n1 c1 n2 c2 n3 c3 : Nat) (sp : Nat → Nat → Nat) (tl cl : Nat → Nat) (r0 r1 r2 r3 r4 r5 r6 r7 r8 r9 r10 : Nat) (L : Int) (h5 : r5 < 256) (hl : L < 0) (w : World) (h1 : TriRow w a1 n1 sp) (h2 : ByteRow w a2 n2 tl) (h3 : ByteRow w a3 n3 cl) (l1 : n1 ≤ 64) (l2 : n2 ≤ 300) (l3 : n3 ≤ 100) :
    Calls Try.prog 4 #[.agg #[.slice a1 n1 c1, .slice a2 n2 c2, .slice a3 n3 c3], regsV r0 r1 r2 r3 r4 r5 r6 r7 r8 r9 r10, .int .i64 L] w fun e w' => e = .returned (.bool true) ∧ Below w.heap.size w w' := by
  have HM := Lib.hid (Own.start w)
  have tg1 : Hid True := trivial
  have tg2 : Hid True := trivial
  have tg3 : Hid True := trivial
  have HT1 := Lib.hid h1
  have HT2 := Lib.hid h2
  have HT3 := Lib.hid h3
  have B1 := Lib.hid l1
  have B2 := Lib.hid l2
  have B3 := Lib.hid l3
  obtain ⟨b, HB5⟩ : ∃ b, Hid (spBase r5 = b) := ⟨_, rfl⟩
  have H5 := Lib.hid h5
  have HL := Lib.hid hl
  have k1 : L < 0 := hl
  clear h1 h2 h3 l1 l2 l3 h5 hl
  go_enter Try.func4, Try.ntmps4
  go_upto_region 8 with (first | (go_at_call 9; (with_reducible refine (alive_any _).mono ?_); rintro e w' ⟨rfl, hb⟩; replace HM := Lib.hid (HM.out.call hb); clear hb) | (go_at_call 11; (with_reducible refine (great_3 a1 a2 a3 n1 c1 n2 c2 n3 c3 _ B1.out B2.out B3.out).mono ?_); rintro e w' ⟨rfl, hb⟩; replace HM := Lib.hid (HM.out.call hb); clear hb) | (go_at_call 12; (with_reducible refine (build_any a1 a2 a3 n1 c1 n2 c2 n3 c3 sp tl cl r0 r1 r2 r3 r4 r5 r6 r7 r8 r9 r10 b H5.out HB5 _ (HT1.out.under (Own.fin HM)) (HT2.out.under (Own.fin HM)) (HT3.out.under (Own.fin HM)) B1.out B2.out B3.out).mono ?_); rintro e w' ⟨gv, gw, ys, zs, rfl, hg, hg2, hne, hW, hW2, HYZ, hb⟩; have HM' := Lib.hid (HM.out.plus2 hb hg2 hW2 hg hW hne); clear HM hb hg hg2 hne hW hW2; have HM := HM'; clear HM') | (go_at_call 8; (with_reducible refine (draw_o (some ⟨gv, 0, none⟩) 16384 16384 (some ⟨gw, 0, none⟩) 32 32 r0 r1 r2 r3 r4 r5 r6 r7 r8 r9 r10 L (.inl HL.out) _).mono ?_); rintro e w' ⟨rfl, hb⟩; replace HM := Lib.hid (HM.out.call hb); clear hb) | ((with_reducible apply own_alloc HM); exact rfl; (with_reducible exact zeroPL); exact rfl; clear HM; intro w' gp HM) | ((with_reducible apply own_lay HM); exact rfl; exact rfl; exact rfl; exact sS; exact sS; exact aggPL.size; (exact rcells_length _ _ _); (exact rcells_length _ _ _); (exact rcells_one _ _ _); exact rfl; exact rfl; clear HM; intro w' HM) | ((with_reducible apply own_box HM); exact rfl; (conv => lhs; whnf); exact rfl; exact rfl; (first | (clear tg1 HM; intro w' g1 HM) | (clear tg2 HM; intro w' g2 HM) | (clear tg3 HM; intro w' g3 HM) | (clear tg4 HM; intro w' g4 HM) | (clear HM; intro w' g' HM))) | ((with_reducible apply own_alloc HM); exact rfl; (first | (with_reducible exact zeroPL) | (with_reducible exact zero11)); exact rfl; (first | (clear tg1 HM; intro w' g1 HM) | (clear tg2 HM; intro w' g2 HM) | (clear tg3 HM; intro w' g3 HM) | (clear tg4 HM; intro w' g4 HM) | (clear HM; intro w' g' HM))) | ((with_reducible apply own_cell HM); exact rfl; exact rfl; (first | (with_reducible exact oneInt) | (with_reducible exact oneBool) | (with_reducible exact oneU8) | (with_reducible exact oneBs) | (with_reducible exact oneTs)); exact sS; exact dS; exact rfl) | ((with_reducible apply own_load HM); exact rfl; exact rfl; (first | (with_reducible exact aggS3) | (with_reducible exact agg11)); exact sS; exact dS; exact tS; exact rfl) | ((with_reducible apply own_store HM); exact rfl; exact rfl; (conv => lhs; whnf); exact rfl; exact sS; exact vS; exact sS; (first | (with_reducible exact (aggS3).size) | (with_reducible exact (agg11).size) | (with_reducible exact (oneInt).size) | (with_reducible exact (oneBool).size) | (with_reducible exact (oneU8).size) | (with_reducible exact (oneBs).size) | (with_reducible exact (oneTs).size)); exact rfl; exact rfl; exact rfl; exact rfl; clear HM; intro w' HM))
  go_loopw [10] (fun xv wr => ∃ x : Nat, x ≤ 256 ∧ xv = .int .i64 (x : Int) ∧ Hid (Own w wr ((gp, 25, rcells (fun _ => 0) false false) :: (gw, 5, b8 32 zs) :: (gv, 5, b8 16384 ys) :: (g2, 27, [.int .u8 (r0 : Int), .int .u8 (r1 : Int), .int .u8 (r2 : Int), .int .u8 (r3 : Int), .int .u8 (r4 : Int), .int .u8 (r5 : Int), .int .u8 (r6 : Int), .int .u8 (r7 : Int), .int .u8 (r8 : Int), .int .u8 (r9 : Int), .int .u8 (r10 : Int)]) :: (g1, 32, [.slice a1 n1 c1, .slice a2 n2 c2, .slice a3 n3 c3]) :: []))) (fun xv _ => 256 - (intOf xv).toNat)
  case atStart => exact ⟨0, by omega, rfl, HM⟩
  case round =>
    clear HM
    obtain ⟨x, hx, rfl, HM⟩ := hrel
    by_cases hlt : x < 256
    · have hlt' : (x : Int) < 256 := by omega
      have HX := Lib.hid hlt
      have HG : Hid ((rcells (fun _ => 0) false false)[x]? = some (.int .u8 0)) := Lib.hid (by rw [rcells_color (fun _ => 0) false false x hlt]; rfl)
      clear hlt hx
      go_upto_region 10 with (first | ((with_reducible apply own_box HM); exact rfl; (conv => lhs; whnf); exact rfl; exact rfl; (first | (clear tg1 HM; intro w' g1 HM) | (clear tg2 HM; intro w' g2 HM) | (clear tg3 HM; intro w' g3 HM) | (clear tg4 HM; intro w' g4 HM) | (clear HM; intro w' g' HM))) | ((with_reducible apply own_alloc HM); exact rfl; (first | (with_reducible exact zeroPL) | (with_reducible exact zero11)); exact rfl; (first | (clear tg1 HM; intro w' g1 HM) | (clear tg2 HM; intro w' g2 HM) | (clear tg3 HM; intro w' g3 HM) | (clear tg4 HM; intro w' g4 HM) | (clear HM; intro w' g' HM))) | ((with_reducible apply own_cell HM); exact rfl; exact rfl; (first | (with_reducible exact oneInt) | (with_reducible exact oneBool) | (with_reducible exact oneU8) | (with_reducible exact oneBs) | (with_reducible exact oneTs)); exact sS; exact dS; exact rfl) | ((with_reducible apply own_load HM); exact rfl; exact rfl; (first | (with_reducible exact aggS3) | (with_reducible exact agg11)); exact sS; exact dS; exact tS; exact rfl) | ((with_reducible apply own_store HM); exact rfl; exact rfl; (conv => lhs; whnf); exact rfl; exact sS; exact vS; exact sS; (first | (with_reducible exact (aggS3).size) | (with_reducible exact (agg11).size) | (with_reducible exact (oneInt).size) | (with_reducible exact (oneBool).size) | (with_reducible exact (oneU8).size) | (with_reducible exact (oneBs).size) | (with_reducible exact (oneTs).size)); exact rfl; exact rfl; exact rfl; exact rfl; clear HM; intro w' HM))
      (refine own_region HM (by kernel_rfl) (by kernel_rfl) ?_; (try simp only [Act.put, List.setIfInBounds_toArray, List.set_cons_zero, List.set_cons_succ]); repeat ((fail_if_success (with_reducible refine wpQuiet_nil ?_)); first | go_big_quiet_skip | (go_big_quiet_want; first | ((with_reducible apply quiet_get); exact rfl; exact bS3; (first | with_reducible exact .z | with_reducible exact .s .z | with_reducible exact .s (.s .z) | with_reducible exact .s (.s (.s .z)) | with_reducible exact .s (.s (.s (.s .z))) | with_reducible exact .s (.s (.s (.s (.s .z)))) | with_reducible exact .s (.s (.s (.s (.s (.s .z))))) | with_reducible exact HSA.out | with_reducible exact HSB.out | with_reducible exact HSC.out | with_reducible exact HSD.out); (first | exact HG.out); go_big_quiet_op; go_big_quiet_on) | ((with_reducible apply quiet_load); exact rfl; (first | (with_reducible exact agg11)); exact sS; exact dS; exact tS; go_big_quiet_op; go_big_quiet_on) | (go_big_quiet_op; go_big_quiet_on) | ((with_reducible apply quiet_call); exact fun w => rfl; (focus (go_simp; all_goals with_reducible rfl)); (intro wq HQ; first | (with_reducible exact rat19_o0 (some ⟨gv, 0, none⟩) 16384 16384 (some ⟨gw, 0, none⟩) 32 32 r0 r1 r2 r3 r4 r5 r6 r7 r8 r9 r10 L (x : Int) HL.out _)); go_big_quiet_op; go_big_quiet_on) | (go_big_quiet_op; go_big_quiet_on) | (go_big_quiet_op; refine ⟨_, fun _ _ => rfl, ?_⟩; go_big_quiet_on))))
      refine wpQuiet_nil ?_
      intro w' HM'
      clear HM; have HM := HM'; clear HM'
      go_wp2_with (first | ((with_reducible apply own_box HM); exact rfl; (conv => lhs; whnf); exact rfl; exact rfl; (first | (clear tg1 HM; intro w' g1 HM) | (clear tg2 HM; intro w' g2 HM) | (clear tg3 HM; intro w' g3 HM) | (clear tg4 HM; intro w' g4 HM) | (clear HM; intro w' g' HM))) | ((with_reducible apply own_alloc HM); exact rfl; (first | (with_reducible exact zeroPL) | (with_reducible exact zero11)); exact rfl; (first | (clear tg1 HM; intro w' g1 HM) | (clear tg2 HM; intro w' g2 HM) | (clear tg3 HM; intro w' g3 HM) | (clear tg4 HM; intro w' g4 HM) | (clear HM; intro w' g' HM))) | ((with_reducible apply own_cell HM); exact rfl; exact rfl; (first | (with_reducible exact oneInt) | (with_reducible exact oneBool) | (with_reducible exact oneU8) | (with_reducible exact oneBs) | (with_reducible exact oneTs)); exact sS; exact dS; exact rfl) | ((with_reducible apply own_load HM); exact rfl; exact rfl; (first | (with_reducible exact aggS3) | (with_reducible exact agg11)); exact sS; exact dS; exact tS; exact rfl) | ((with_reducible apply own_store HM); exact rfl; exact rfl; (conv => lhs; whnf); exact rfl; exact sS; exact vS; exact sS; (first | (with_reducible exact (aggS3).size) | (with_reducible exact (agg11).size) | (with_reducible exact (oneInt).size) | (with_reducible exact (oneBool).size) | (with_reducible exact (oneU8).size) | (with_reducible exact (oneBs).size) | (with_reducible exact (oneTs).size)); exact rfl; exact rfl; exact rfl; exact rfl; clear HM; intro w' HM))
      go_roundw
      case rel => exact ⟨x + 1, by have := HX.out; omega, by go_num, HM⟩
      case measure => have := HX.out; simp [intOf]; omega
    · obtain rfl : x = 256 := by omega
      go_upto_region 14 with (first | (go_at_call 14; (with_reducible refine (rtold_o0 (some ⟨gv, 0, none⟩) 16384 16384 r0 r1 r2 r3 r4 r5 r6 r7 r8 r9 r10 L HL.out _).mono ?_); rintro e w' ⟨rfl, hb⟩; replace HM := Lib.hid (HM.out.call hb); clear hb) | ((with_reducible apply own_box HM); exact rfl; (conv => lhs; whnf); exact rfl; exact rfl; (first | (clear tg1 HM; intro w' g1 HM) | (clear tg2 HM; intro w' g2 HM) | (clear tg3 HM; intro w' g3 HM) | (clear tg4 HM; intro w' g4 HM) | (clear HM; intro w' g' HM))) | ((with_reducible apply own_alloc HM); exact rfl; (first | (with_reducible exact zeroPL) | (with_reducible exact zero11)); exact rfl; (first | (clear tg1 HM; intro w' g1 HM) | (clear tg2 HM; intro w' g2 HM) | (clear tg3 HM; intro w' g3 HM) | (clear tg4 HM; intro w' g4 HM) | (clear HM; intro w' g' HM))) | ((with_reducible apply own_cell HM); exact rfl; exact rfl; (first | (with_reducible exact oneInt) | (with_reducible exact oneBool) | (with_reducible exact oneU8) | (with_reducible exact oneBs) | (with_reducible exact oneTs)); exact sS; exact dS; exact rfl) | ((with_reducible apply own_load HM); exact rfl; exact rfl; (first | (with_reducible exact aggS3) | (with_reducible exact agg11)); exact sS; exact dS; exact tS; exact rfl) | ((with_reducible apply own_store HM); exact rfl; exact rfl; (conv => lhs; whnf); exact rfl; exact sS; exact vS; exact sS; (first | (with_reducible exact (aggS3).size) | (with_reducible exact (agg11).size) | (with_reducible exact (oneInt).size) | (with_reducible exact (oneBool).size) | (with_reducible exact (oneU8).size) | (with_reducible exact (oneBs).size) | (with_reducible exact (oneTs).size)); exact rfl; exact rfl; exact rfl; exact rfl; clear HM; intro w' HM))
      have hs0 := same_p (fun _ => 0) false false
      go_wp2_with (first | ((with_reducible apply own_row HM); exact rfl; exact rfl; exact aggPL; (first | with_reducible exact .z | with_reducible exact .s .z | with_reducible exact .s (.s .z) | with_reducible exact .s (.s (.s .z))); exact rfl; exact rcells_length _ _ _) | ((with_reducible apply built_by built_p); exact rfl; (focus (go_simp; done)); exact rfl))
      go_ret
      exact ⟨rfl, Own.fin HM⟩
set_option maxRecDepth 100000 in
set_option maxHeartbeats 6400000 in
theorem draws_o1 (a1 a2 a3 : Option Addr) (n1 c1 n2 c2 n3 c3 : Nat) (sp : Nat → Nat → Nat) (tl cl : Nat → Nat) (r0 r1 r2 r3 r4 r5 r6 r7 r8 r9 r10 : Nat) (L : Int) (h5 : r5 < 256) (hl : 191 < L) (w : World) (h1 : TriRow w a1 n1 sp) (h2 : ByteRow w a2 n2 tl) (h3 : ByteRow w a3 n3 cl) (l1 : n1 ≤ 64) (l2 : n2 ≤ 300) (l3 : n3 ≤ 100) :
    Calls Try.prog 4 #[.agg #[.slice a1 n1 c1, .slice a2 n2 c2, .slice a3 n3 c3], regsV r0 r1 r2 r3 r4 r5 r6 r7 r8 r9 r10, .int .i64 L] w fun e w' => e = .returned (.bool true) ∧ Below w.heap.size w w' := by
  have HM := Lib.hid (Own.start w)
  have tg1 : Hid True := trivial
  have tg2 : Hid True := trivial
  have tg3 : Hid True := trivial
  have HT1 := Lib.hid h1
  have HT2 := Lib.hid h2
  have HT3 := Lib.hid h3
  have B1 := Lib.hid l1
  have B2 := Lib.hid l2
  have B3 := Lib.hid l3
  obtain ⟨b, HB5⟩ : ∃ b, Hid (spBase r5 = b) := ⟨_, rfl⟩
  have H5 := Lib.hid h5
  have HL := Lib.hid hl
  have k1 : ¬ L < 0 := by omega
  have k2 : 191 < L := hl
  clear h1 h2 h3 l1 l2 l3 h5 hl
  go_enter Try.func4, Try.ntmps4
  go_upto_region 8 with (first | (go_at_call 9; (with_reducible refine (alive_any _).mono ?_); rintro e w' ⟨rfl, hb⟩; replace HM := Lib.hid (HM.out.call hb); clear hb) | (go_at_call 11; (with_reducible refine (great_3 a1 a2 a3 n1 c1 n2 c2 n3 c3 _ B1.out B2.out B3.out).mono ?_); rintro e w' ⟨rfl, hb⟩; replace HM := Lib.hid (HM.out.call hb); clear hb) | (go_at_call 12; (with_reducible refine (build_any a1 a2 a3 n1 c1 n2 c2 n3 c3 sp tl cl r0 r1 r2 r3 r4 r5 r6 r7 r8 r9 r10 b H5.out HB5 _ (HT1.out.under (Own.fin HM)) (HT2.out.under (Own.fin HM)) (HT3.out.under (Own.fin HM)) B1.out B2.out B3.out).mono ?_); rintro e w' ⟨gv, gw, ys, zs, rfl, hg, hg2, hne, hW, hW2, HYZ, hb⟩; have HM' := Lib.hid (HM.out.plus2 hb hg2 hW2 hg hW hne); clear HM hb hg hg2 hne hW hW2; have HM := HM'; clear HM') | (go_at_call 8; (with_reducible refine (draw_o (some ⟨gv, 0, none⟩) 16384 16384 (some ⟨gw, 0, none⟩) 32 32 r0 r1 r2 r3 r4 r5 r6 r7 r8 r9 r10 L (.inr HL.out) _).mono ?_); rintro e w' ⟨rfl, hb⟩; replace HM := Lib.hid (HM.out.call hb); clear hb) | ((with_reducible apply own_alloc HM); exact rfl; (with_reducible exact zeroPL); exact rfl; clear HM; intro w' gp HM) | ((with_reducible apply own_lay HM); exact rfl; exact rfl; exact rfl; exact sS; exact sS; exact aggPL.size; (exact rcells_length _ _ _); (exact rcells_length _ _ _); (exact rcells_one _ _ _); exact rfl; exact rfl; clear HM; intro w' HM) | ((with_reducible apply own_box HM); exact rfl; (conv => lhs; whnf); exact rfl; exact rfl; (first | (clear tg1 HM; intro w' g1 HM) | (clear tg2 HM; intro w' g2 HM) | (clear tg3 HM; intro w' g3 HM) | (clear tg4 HM; intro w' g4 HM) | (clear HM; intro w' g' HM))) | ((with_reducible apply own_alloc HM); exact rfl; (first | (with_reducible exact zeroPL) | (with_reducible exact zero11)); exact rfl; (first | (clear tg1 HM; intro w' g1 HM) | (clear tg2 HM; intro w' g2 HM) | (clear tg3 HM; intro w' g3 HM) | (clear tg4 HM; intro w' g4 HM) | (clear HM; intro w' g' HM))) | ((with_reducible apply own_cell HM); exact rfl; exact rfl; (first | (with_reducible exact oneInt) | (with_reducible exact oneBool) | (with_reducible exact oneU8) | (with_reducible exact oneBs) | (with_reducible exact oneTs)); exact sS; exact dS; exact rfl) | ((with_reducible apply own_load HM); exact rfl; exact rfl; (first | (with_reducible exact aggS3) | (with_reducible exact agg11)); exact sS; exact dS; exact tS; exact rfl) | ((with_reducible apply own_store HM); exact rfl; exact rfl; (conv => lhs; whnf); exact rfl; exact sS; exact vS; exact sS; (first | (with_reducible exact (aggS3).size) | (with_reducible exact (agg11).size) | (with_reducible exact (oneInt).size) | (with_reducible exact (oneBool).size) | (with_reducible exact (oneU8).size) | (with_reducible exact (oneBs).size) | (with_reducible exact (oneTs).size)); exact rfl; exact rfl; exact rfl; exact rfl; clear HM; intro w' HM))
  go_loopw [10] (fun xv wr => ∃ x : Nat, x ≤ 256 ∧ xv = .int .i64 (x : Int) ∧ Hid (Own w wr ((gp, 25, rcells (fun _ => 0) false false) :: (gw, 5, b8 32 zs) :: (gv, 5, b8 16384 ys) :: (g2, 27, [.int .u8 (r0 : Int), .int .u8 (r1 : Int), .int .u8 (r2 : Int), .int .u8 (r3 : Int), .int .u8 (r4 : Int), .int .u8 (r5 : Int), .int .u8 (r6 : Int), .int .u8 (r7 : Int), .int .u8 (r8 : Int), .int .u8 (r9 : Int), .int .u8 (r10 : Int)]) :: (g1, 32, [.slice a1 n1 c1, .slice a2 n2 c2, .slice a3 n3 c3]) :: []))) (fun xv _ => 256 - (intOf xv).toNat)
  case atStart => exact ⟨0, by omega, rfl, HM⟩
  case round =>
    clear HM
    obtain ⟨x, hx, rfl, HM⟩ := hrel
    by_cases hlt : x < 256
    · have hlt' : (x : Int) < 256 := by omega
      have HX := Lib.hid hlt
      have HG : Hid ((rcells (fun _ => 0) false false)[x]? = some (.int .u8 0)) := Lib.hid (by rw [rcells_color (fun _ => 0) false false x hlt]; rfl)
      clear hlt hx
      go_upto_region 10 with (first | ((with_reducible apply own_box HM); exact rfl; (conv => lhs; whnf); exact rfl; exact rfl; (first | (clear tg1 HM; intro w' g1 HM) | (clear tg2 HM; intro w' g2 HM) | (clear tg3 HM; intro w' g3 HM) | (clear tg4 HM; intro w' g4 HM) | (clear HM; intro w' g' HM))) | ((with_reducible apply own_alloc HM); exact rfl; (first | (with_reducible exact zeroPL) | (with_reducible exact zero11)); exact rfl; (first | (clear tg1 HM; intro w' g1 HM) | (clear tg2 HM; intro w' g2 HM) | (clear tg3 HM; intro w' g3 HM) | (clear tg4 HM; intro w' g4 HM) | (clear HM; intro w' g' HM))) | ((with_reducible apply own_cell HM); exact rfl; exact rfl; (first | (with_reducible exact oneInt) | (with_reducible exact oneBool) | (with_reducible exact oneU8) | (with_reducible exact oneBs) | (with_reducible exact oneTs)); exact sS; exact dS; exact rfl) | ((with_reducible apply own_load HM); exact rfl; exact rfl; (first | (with_reducible exact aggS3) | (with_reducible exact agg11)); exact sS; exact dS; exact tS; exact rfl) | ((with_reducible apply own_store HM); exact rfl; exact rfl; (conv => lhs; whnf); exact rfl; exact sS; exact vS; exact sS; (first | (with_reducible exact (aggS3).size) | (with_reducible exact (agg11).size) | (with_reducible exact (oneInt).size) | (with_reducible exact (oneBool).size) | (with_reducible exact (oneU8).size) | (with_reducible exact (oneBs).size) | (with_reducible exact (oneTs).size)); exact rfl; exact rfl; exact rfl; exact rfl; clear HM; intro w' HM))
      (refine own_region HM (by kernel_rfl) (by kernel_rfl) ?_; (try simp only [Act.put, List.setIfInBounds_toArray, List.set_cons_zero, List.set_cons_succ]); repeat ((fail_if_success (with_reducible refine wpQuiet_nil ?_)); first | go_big_quiet_skip | (go_big_quiet_want; first | ((with_reducible apply quiet_get); exact rfl; exact bS3; (first | with_reducible exact .z | with_reducible exact .s .z | with_reducible exact .s (.s .z) | with_reducible exact .s (.s (.s .z)) | with_reducible exact .s (.s (.s (.s .z))) | with_reducible exact .s (.s (.s (.s (.s .z)))) | with_reducible exact .s (.s (.s (.s (.s (.s .z))))) | with_reducible exact HSA.out | with_reducible exact HSB.out | with_reducible exact HSC.out | with_reducible exact HSD.out); (first | exact HG.out); go_big_quiet_op; go_big_quiet_on) | ((with_reducible apply quiet_load); exact rfl; (first | (with_reducible exact agg11)); exact sS; exact dS; exact tS; go_big_quiet_op; go_big_quiet_on) | (go_big_quiet_op; go_big_quiet_on) | ((with_reducible apply quiet_call); exact fun w => rfl; (focus (go_simp; all_goals with_reducible rfl)); (intro wq HQ; first | (with_reducible exact rat19_o1 (some ⟨gv, 0, none⟩) 16384 16384 (some ⟨gw, 0, none⟩) 32 32 r0 r1 r2 r3 r4 r5 r6 r7 r8 r9 r10 L (x : Int) HL.out _)); go_big_quiet_op; go_big_quiet_on) | (go_big_quiet_op; go_big_quiet_on) | (go_big_quiet_op; refine ⟨_, fun _ _ => rfl, ?_⟩; go_big_quiet_on))))
      refine wpQuiet_nil ?_
      intro w' HM'
      clear HM; have HM := HM'; clear HM'
      go_wp2_with (first | ((with_reducible apply own_box HM); exact rfl; (conv => lhs; whnf); exact rfl; exact rfl; (first | (clear tg1 HM; intro w' g1 HM) | (clear tg2 HM; intro w' g2 HM) | (clear tg3 HM; intro w' g3 HM) | (clear tg4 HM; intro w' g4 HM) | (clear HM; intro w' g' HM))) | ((with_reducible apply own_alloc HM); exact rfl; (first | (with_reducible exact zeroPL) | (with_reducible exact zero11)); exact rfl; (first | (clear tg1 HM; intro w' g1 HM) | (clear tg2 HM; intro w' g2 HM) | (clear tg3 HM; intro w' g3 HM) | (clear tg4 HM; intro w' g4 HM) | (clear HM; intro w' g' HM))) | ((with_reducible apply own_cell HM); exact rfl; exact rfl; (first | (with_reducible exact oneInt) | (with_reducible exact oneBool) | (with_reducible exact oneU8) | (with_reducible exact oneBs) | (with_reducible exact oneTs)); exact sS; exact dS; exact rfl) | ((with_reducible apply own_load HM); exact rfl; exact rfl; (first | (with_reducible exact aggS3) | (with_reducible exact agg11)); exact sS; exact dS; exact tS; exact rfl) | ((with_reducible apply own_store HM); exact rfl; exact rfl; (conv => lhs; whnf); exact rfl; exact sS; exact vS; exact sS; (first | (with_reducible exact (aggS3).size) | (with_reducible exact (agg11).size) | (with_reducible exact (oneInt).size) | (with_reducible exact (oneBool).size) | (with_reducible exact (oneU8).size) | (with_reducible exact (oneBs).size) | (with_reducible exact (oneTs).size)); exact rfl; exact rfl; exact rfl; exact rfl; clear HM; intro w' HM))
      go_roundw
      case rel => exact ⟨x + 1, by have := HX.out; omega, by go_num, HM⟩
      case measure => have := HX.out; simp [intOf]; omega
    · obtain rfl : x = 256 := by omega
      go_upto_region 14 with (first | (go_at_call 14; (with_reducible refine (rtold_o1 (some ⟨gv, 0, none⟩) 16384 16384 r0 r1 r2 r3 r4 r5 r6 r7 r8 r9 r10 L HL.out _).mono ?_); rintro e w' ⟨rfl, hb⟩; replace HM := Lib.hid (HM.out.call hb); clear hb) | ((with_reducible apply own_box HM); exact rfl; (conv => lhs; whnf); exact rfl; exact rfl; (first | (clear tg1 HM; intro w' g1 HM) | (clear tg2 HM; intro w' g2 HM) | (clear tg3 HM; intro w' g3 HM) | (clear tg4 HM; intro w' g4 HM) | (clear HM; intro w' g' HM))) | ((with_reducible apply own_alloc HM); exact rfl; (first | (with_reducible exact zeroPL) | (with_reducible exact zero11)); exact rfl; (first | (clear tg1 HM; intro w' g1 HM) | (clear tg2 HM; intro w' g2 HM) | (clear tg3 HM; intro w' g3 HM) | (clear tg4 HM; intro w' g4 HM) | (clear HM; intro w' g' HM))) | ((with_reducible apply own_cell HM); exact rfl; exact rfl; (first | (with_reducible exact oneInt) | (with_reducible exact oneBool) | (with_reducible exact oneU8) | (with_reducible exact oneBs) | (with_reducible exact oneTs)); exact sS; exact dS; exact rfl) | ((with_reducible apply own_load HM); exact rfl; exact rfl; (first | (with_reducible exact aggS3) | (with_reducible exact agg11)); exact sS; exact dS; exact tS; exact rfl) | ((with_reducible apply own_store HM); exact rfl; exact rfl; (conv => lhs; whnf); exact rfl; exact sS; exact vS; exact sS; (first | (with_reducible exact (aggS3).size) | (with_reducible exact (agg11).size) | (with_reducible exact (oneInt).size) | (with_reducible exact (oneBool).size) | (with_reducible exact (oneU8).size) | (with_reducible exact (oneBs).size) | (with_reducible exact (oneTs).size)); exact rfl; exact rfl; exact rfl; exact rfl; clear HM; intro w' HM))
      have hs0 := same_p (fun _ => 0) false false
      go_wp2_with (first | ((with_reducible apply own_row HM); exact rfl; exact rfl; exact aggPL; (first | with_reducible exact .z | with_reducible exact .s .z | with_reducible exact .s (.s .z) | with_reducible exact .s (.s (.s .z))); exact rfl; exact rcells_length _ _ _) | ((with_reducible apply built_by built_p); exact rfl; (focus (go_simp; done)); exact rfl))
      go_ret
      exact ⟨rfl, Own.fin HM⟩
theorem draws_any (a1 a2 a3 : Option Addr) (n1 c1 n2 c2 n3 c3 : Nat) (sp : Nat → Nat → Nat) (tl cl : Nat → Nat) (r0 r1 r2 r3 r4 r5 r6 r7 r8 r9 r10 : Nat) (L : Int) (h0 : r0 < 256) (hr1 : r1 < 256) (hr2 : r2 < 256) (h5 : r5 < 256) (h6 : r6 < 256) (h7 : r7 < 256) (h8 : r8 < 256) (h9 : r9 < 256) (w : World) (h1 : TriRow w a1 n1 sp) (h2 : ByteRow w a2 n2 tl) (h3 : ByteRow w a3 n3 cl) :
    Calls Try.prog 4 #[.agg #[.slice a1 n1 c1, .slice a2 n2 c2, .slice a3 n3 c3], regsV r0 r1 r2 r3 r4 r5 r6 r7 r8 r9 r10, .int .i64 L] w fun e w' => e = .returned (.bool true) ∧ Below w.heap.size w w' := by
  by_cases l1 : n1 ≤ 64
  · by_cases l2 : n2 ≤ 300
    · by_cases l3 : n3 ≤ 100
      · by_cases k1 : L < 0
        · exact draws_o0 a1 a2 a3 n1 c1 n2 c2 n3 c3 sp tl cl r0 r1 r2 r3 r4 r5 r6 r7 r8 r9 r10 L h5 k1 w h1 h2 h3 l1 l2 l3
        · by_cases k2 : 191 < L
          · exact draws_o1 a1 a2 a3 n1 c1 n2 c2 n3 c3 sp tl cl r0 r1 r2 r3 r4 r5 r6 r7 r8 r9 r10 L h5 k2 w h1 h2 h3 l1 l2 l3
          · obtain ⟨line, rfl⟩ := Int.eq_ofNat_of_zero_le (show 0 ≤ L by omega)
            exact draws_in a1 a2 a3 n1 c1 n2 c2 n3 c3 sp tl cl r0 r1 r2 r3 r4 r5 r6 r7 r8 r9 r10 line h0 hr1 hr2 h5 h6 h7 h8 h9 (by omega) w h1 h2 h3 l1 l2 l3
      · exact draws_g2 a1 a2 a3 n1 c1 n2 c2 n3 c3 r0 r1 r2 r3 r4 r5 r6 r7 r8 r9 r10 L w l1 l2 (by omega)
    · exact draws_g1 a1 a2 a3 n1 c1 n2 c2 n3 c3 r0 r1 r2 r3 r4 r5 r6 r7 r8 r9 r10 L w l1 (by omega)
  · exact draws_g0 a1 a2 a3 n1 c1 n2 c2 n3 c3 r0 r1 r2 r3 r4 r5 r6 r7 r8 r9 r10 L w (by omega)
def zeroCells (i : TypeInfo) : List Value := match i.zero with
  | some (.agg cs) => cs.toList
  | _ => []
def Oct (zs : List Int) : Prop := ∀ z ∈ zs, 0 ≤ z ∧ z ≤ 255
theorem Oct.append {a b : List Int} (ha : Oct a) (hb : Oct b) : Oct (a ++ b) := by
  intro z hz
  rcases List.mem_append.1 hz with h | h
  · exact ha z h
  · exact hb z h
theorem Oct.set {zs : List Int} (h : Oct zs) (i : Nat) {v : Int} (h0 : 0 ≤ v) (h1 : v ≤ 255) : Oct (zs.set i v) := by
  intro z hz
  rcases List.mem_or_eq_of_mem_set hz with h' | rfl
  · exact h z h'
  · exact ⟨h0, h1⟩
theorem Oct.getD {zs : List Int} (h : Oct zs) (i : Nat) : 0 ≤ zs.getD i 0 ∧ zs.getD i 0 ≤ 255 := by
  rw [List.getD_eq_getElem?_getD]
  rcases Nat.lt_or_ge i zs.length with hl | hl
  · rw [List.getElem?_eq_getElem hl]; exact h _ (List.getElem_mem hl)
  · rw [List.getElem?_eq_none hl]; simp
open Go.ChangeShapes Go.WideShapes Go.ChangeAt Go.RowKit Go.Joins
theorem okWide_arr {P : Program} {w : World} {r : Reach} {b0 n : Nat} {t e : TypeId} {v : Value} (ht : P.underlying t = some (.array n e)) (h : Value.okWide P w r b0 t v) : ∃ cs, v = .agg cs ∧ cs.size = P.cellsOf t := by
  simp only [Value.okWide, ht] at h
  obtain ⟨cs, h1, h2, _⟩ := h
  exact ⟨cs, h1, h2⟩
theorem ints_of_cells {H : Type} {enc : TypeId × Value → H} {P : Program} {w : World} {base : Nat} {spare : Nat → Bool} {held : Bool} {m : Nat} {e : TypeId} {k : IntKind} (he : P.underlying e = some (.int k)) (hc : P.cellsOf e = 1) :
    ∀ (cs : List Value), (∀ i, i < cs.length → ∃ x, DataW.trod enc P w base spare held m e ((cs.drop (i * P.cellsOf e)).take (P.cellsOf e)) = some x) → ∃ zs : List Int, cs = zs.map (Value.int k) ∧ ∀ z ∈ zs, (Lit.int k z).wf = true
  | [], _ => ⟨[], rfl, fun z hz => by simp at hz⟩
  | c :: r, h => by
    obtain ⟨zs, hr, hz⟩ := ints_of_cells he hc r (fun i hi => by
      obtain ⟨x, hx⟩ := h (i + 1) (by simp; omega)
      refine ⟨x, ?_⟩
      rw [hc] at hx ⊢
      simpa using hx)
    obtain ⟨x, hx⟩ := h 0 (by simp)
    rw [hc] at hx
    simp at hx
    obtain ⟨z, e1, _, wz⟩ := DataW.trod_int he hx
    simp at e1
    exact ⟨z :: zs, by rw [hr, e1]; rfl, fun y hy => by
      rcases List.mem_cons.1 hy with rfl | hy
      · exact wz
      · exact hz y hy⟩
theorem open_arr_ints {H : Type} {enc : TypeId × Value → H} {P : Program} {w : World} {base : Nat} {spare : Nat → Bool} {held : Bool} {r : Reach} {b0 n : Nat} {t e : TypeId} {k : IntKind} {v : Value} {d : DataW H} {ps : List MemPlace}
    (ht : P.underlying t = some (.array n e)) (he : P.underlying e = some (.int k)) (hc : P.cellsOf e = 1) (hct : P.cellsOf t = n) (hv : Value.okWide P w r b0 t v) (h : DataW.Trod enc P w base spare held t v d ps) :
    ∃ zs : List Int, v = .agg (zs.map (Value.int k)).toArray ∧ zs.length = n ∧ ∀ z ∈ zs, (Lit.int k z).wf = true := by
  obtain ⟨cs, rfl, hsz⟩ := okWide_arr ht hv
  obtain ⟨fuel, hf⟩ := h
  obtain ⟨xs, m, _, _, _, hxl, hxs⟩ := DataW.trod_array ht hf
  have hf' : ∀ i, i < cs.toList.length → ∃ x, DataW.trod enc P w base spare held m e ((cs.toList.drop (i * P.cellsOf e)).take (P.cellsOf e)) = some x := fun i hi => by
    have hi' : i < n := by rw [← hct, ← hsz]; simpa using hi
    have := hxs i hi'
    rw [List.getElem?_eq_getElem (by omega)] at this
    exact ⟨_, this⟩
  obtain ⟨zs, hz, hw⟩ := ints_of_cells he hc cs.toList hf'
  refine ⟨zs, ?_, ?_, hw⟩
  · rw [← hz]
  · have := congrArg List.length hz
    simp at this
    omega
open Go.ChangeShapes Go.WideShapes Go.ChangeAt Go.RowKit Go.Joins
theorem kU8T : Try.prog.cellsOf 5 = 1 := by kernel_rfl
theorem k3T : Try.prog.cellsOf 59 = 3 := by kernel_rfl
def byteIn (W : World) (g o : Nat) : Nat := match W.cell? ⟨g, o, none⟩ with | some (.int _ z) => z.toNat | _ => 0
theorem tri_of {H : Type} {enc : TypeId × Value → H} {W : World} {fuel : Nat} {c : Value} {y : DataW H × List MemPlace} (hf : DataW.trod enc Try.prog W 0 (fun _ => true) true fuel 30 [c] = some y) :
    ∃ a n cap sp, c = .slice a n cap ∧ TriRow W a n sp ∧ (a = none → n = 0 ∧ cap = 0) := by
  rcases DataW.trod_slice Try.underlying30 hf with ⟨hcs, _⟩ | ⟨ad, l, cp, elems, rest, m, _, hcs, _, _, _, _, hel, hall, _, _⟩
  · simp at hcs
    subst hcs
    exact ⟨none, 0, 0, fun _ _ => 0, rfl, TriRow.nil _ _ _, fun _ => ⟨rfl, rfl⟩⟩
  · simp at hcs
    subst hcs
    have key : ∀ i, i < l → ∀ k, k < 3 → ∃ z : Int, W.cell? (ad.add (i * 3 + k)) = some (.int .u8 z) ∧ (Lit.int .u8 z).wf = true := by
      intro i hi k hk
      have h := hall i hi
      rw [k3T, List.getElem?_eq_getElem (by omega), Option.bind_eq_some_iff] at h
      obtain ⟨cs, hc, ht⟩ := h
      obtain ⟨xs, m', _, _, _, hxl, hxs⟩ := DataW.trod_array Try.underlying59 ht
      have hlen : cs.length = 3 := (World.cells?_some hc).2.1
      obtain ⟨zs, hz, hw⟩ := ints_of_cells Try.underlying5 kU8T cs (fun j hj => by
        have hj' : j < 3 := by omega
        have := hxs j hj'
        rw [List.getElem?_eq_getElem (by omega)] at this
        exact ⟨_, this⟩)
      have h2 := (World.cells?_some hc).2.2 k hk
      have hzl : zs.length = 3 := by rw [hz] at hlen; simpa using hlen
      refine ⟨zs[k]'(by omega), ?_, hw _ (List.getElem_mem _)⟩
      have e : ((ad.add (i * 3)).add k) = ad.add (i * 3 + k) := by unfold Addr.add; split <;> split <;> simp_all <;> omega
      rw [← e, h2, hz]
      simp [show k < zs.length by omega]
    refine ⟨some ad, l, cp, fun i k => byteIn W ad.block (ad.off + i * 3 + k), rfl, fun hn => ?_, fun h => by cases h⟩
    obtain ⟨z0, h0, _⟩ := key 0 hn 0 (by omega)
    obtain ⟨g, o, s⟩ := ad
    have hs : s = none := by simpa [Addr.add] using World.cell?_spot h0
    subst hs
    have hg : g < W.heap.size := by
      have := World.block_lt_of_cell? W _ h0
      simpa [Addr.add] using this
    refine ⟨g, o, rfl, hg, fun i hi k hk => ?_⟩
    obtain ⟨z, hz, hw⟩ := key i hi k hk
    have ha : (⟨g, o, none⟩ : Addr).add (i * 3 + k) = ⟨g, o + i * 3 + k, none⟩ := by unfold Addr.add; split <;> simp_all <;> omega
    rw [ha] at hz
    have hb := bounds_u8 hw
    show W.cell? ⟨g, o + i * 3 + k, none⟩ = some (.int .u8 ((byteIn W g (o + i * 3 + k) : Nat) : Int)) ∧ byteIn W g (o + i * 3 + k) < 256
    unfold byteIn
    rw [hz]
    refine ⟨?_, by show z.toNat < 256; omega⟩
    show _ = some (Value.int .u8 ((z.toNat : Nat) : Int))
    rw [Int.toNat_of_nonneg (by omega)]
open Go.ChangeShapes Go.WideShapes Go.ChangeAt Go.RowKit Go.Joins
theorem kBsT : Try.prog.cellsOf 22 = 1 := by kernel_rfl
theorem kTsT : Try.prog.cellsOf 30 = 1 := by kernel_rfl
theorem kScn : Try.prog.cellsOf 32 = 3 := by kernel_rfl
theorem byteRow_of {H : Type} {enc : TypeId × Value → H} {W : World} {fuel : Nat} {c : Value} {y : DataW H × List MemPlace} (hf : DataW.trod enc Try.prog W 0 (fun _ => true) true fuel 22 [c] = some y) :
    ∃ a n cap xs, c = .slice a n cap ∧ ByteRow W a n xs := by
  rcases open_ints Try.underlying22 Try.underlying5 (by kernel_rfl) hf with ⟨hcs, _⟩ | ⟨ad, l, cp, zs, hcs, _, hl, hm, hz, _, hcell, hwf⟩
  · simp at hcs
    subst hcs
    exact ⟨none, 0, 0, fun _ => 0, rfl, fun h => absurd h (by omega)⟩
  · simp at hcs
    subst hcs
    simp at hz
    refine ⟨some ad, l, cp, fun i => (zs.getD i 0).toNat, rfl, fun hn => ?_⟩
    have h0 := hcell 0 (by omega)
    obtain ⟨g, o, s⟩ := ad
    have hs : s = none := by simpa [Addr.add] using World.cell?_spot h0
    subst hs
    have hg : g < W.heap.size := by
      have := World.block_lt_of_cell? W _ h0
      simpa [Addr.add] using this
    refine ⟨g, o, rfl, hg, fun i hi => ?_⟩
    have hi' := hcell i (by omega)
    have ha : (⟨g, o, none⟩ : Addr).add i = ⟨g, o + i, none⟩ := by unfold Addr.add; split <;> simp_all
    have e : zs.getD i 0 = zs[i]'(by omega) := by simp [List.getD_eq_getElem?_getD, show i < zs.length by omega]
    have hb := bounds_u8 (hwf (zs[i]'(by omega)) (List.getElem_mem _))
    rw [ha] at hi'
    show W.cell? ⟨g, o + i, none⟩ = some (.int .u8 (((zs.getD i 0).toNat : Nat) : Int)) ∧ (zs.getD i 0).toNat < 256
    rw [e]
    refine ⟨?_, by omega⟩
    rw [hi', Int.toNat_of_nonneg (by omega), e]
theorem scene_in {H : Type} {enc : TypeId × Value → H} {W : World} {b0 : Nat} {v : Value} {d : DataW H} {q : List MemPlace} (hv : Value.okWide Try.prog W .any b0 32 v) (h : DataW.Trod enc Try.prog W 0 (fun _ => true) true 32 v d q) :
    ∃ a1 n1 c1 sp a2 n2 c2 tl a3 n3 c3 cl, v = .agg #[.slice a1 n1 c1, .slice a2 n2 c2, .slice a3 n3 c3] ∧ TriRow W a1 n1 sp ∧ ByteRow W a2 n2 tl ∧ ByteRow W a3 n3 cl := by
  obtain ⟨cs, rfl, hsz⟩ := okWide_struct Try.underlying32 hv
  rw [kScn] at hsz
  obtain ⟨l⟩ := cs
  match l, hsz with
  | [c0, c1, c2], _ =>
    obtain ⟨fuel, hf⟩ := h
    obtain ⟨y0, y1, y2, n, -, -, h0, h1, h2⟩ := Go.Deep.trod_struct3 Try.underlying32 hf
    simp [kBsT, kTsT, Value.cells] at h0 h1 h2
    obtain ⟨a1, n1, k1, sp, rfl, r1, r0⟩ := tri_of h0
    obtain ⟨a2, n2, k2, tl, rfl, r2⟩ := byteRow_of h1
    obtain ⟨a3, n3, k3, cl, rfl, r3⟩ := byteRow_of h2
    exact ⟨a1, n1, k1, sp, a2, n2, k2, tl, a3, n3, k3, cl, rfl, r1, r2, r3⟩
end Go.Proofs.Ytijjigacmmhloaa
