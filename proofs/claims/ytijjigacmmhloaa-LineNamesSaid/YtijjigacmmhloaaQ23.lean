import Derived.Test.YtijjigacmmhloaaQ20
namespace Go.Proofs.Ytijjigacmmhloaa
open Go.RowKit
theorem blt_sc (a b_ : Option Addr) (n c m d : Nat) (w : World) : (Instr.build 32 #[(1, .slice a n c), (2, .slice b_ m d)]).run Try.prog w = .ok (.agg #[.slice none 0 0, .slice a n c, .slice b_ m d]) w := by kernel_rfl
set_option maxRecDepth 100000 in
set_option maxHeartbeats 12800000 in
theorem over_in (a1 a2 a3 : Option Addr) (n1 c1 n2 c2 n3 c3 : Nat) (sp : Nat → Nat → Nat) (tl cl : Nat → Nat) (r0 r1 r2 r3 r4 r5 r6 r7 r8 r9 r10 line : Nat) (h0 : r0 < 256) (hr1 : r1 < 256) (hr2 : r2 < 256) (h5 : r5 < 256) (h6 : r6 < 256) (h7 : r7 < 256) (h8 : r8 < 256) (h9 : r9 < 256) (hl : line < 192) (w : World) (h1 : TriRow w a1 n1 sp) (h2 : ByteRow w a2 n2 tl) (h3 : ByteRow w a3 n3 cl) (l1 : n1 ≤ 64) (l2 : n2 ≤ 300) (l3 : n3 ≤ 100) :
    Calls Try.prog 7 #[.agg #[.slice a1 n1 c1, .slice a2 n2 c2, .slice a3 n3 c3], regsV r0 r1 r2 r3 r4 r5 r6 r7 r8 r9 r10, .int .i64 (line : Int)] w fun e w' => e = .returned (.bool true) ∧ Below w.heap.size w w' := by
  have HM := Lib.hid (Own.start w)
  have tg1 : Hid True := trivial
  have tg2 : Hid True := trivial
  have tg3 : Hid True := trivial
  have HT1 := Lib.hid h1
  have HT2 := Lib.hid h2
  have HT3 := Lib.hid h3
  have B1 := Lib.hid l1
  have B2 := Lib.hid l2
  have B3 := Lib.hid l3
  obtain ⟨b, HB5⟩ : ∃ b, Hid (spBase r5 = b) := ⟨_, rfl⟩
  have H0 := Lib.hid h0
  have H1 := Lib.hid hr1
  have H2 := Lib.hid hr2
  have H5 := Lib.hid h5
  have H6 := Lib.hid h6
  have H7 := Lib.hid h7
  have H8 := Lib.hid h8
  have H9 := Lib.hid h9
  have HL := Lib.hid hl
  have hmk := Lib.hid (made_bytes 32 (by decide))
  have k1 : ((line : Int) < 0) = False := eq_false (by omega)
  have k3 : ((191 : Int) < (line : Int)) = False := eq_false (by omega)
  have k4 : (191 < line) = False := eq_false (by omega)
  obtain ⟨q1, hq1⟩ : ∃ q, Nat.lor r1 64 = q := ⟨_, rfl⟩
  obtain ⟨q0, hq0⟩ : ∃ q, Nat.land r0 223 = q := ⟨_, rfl⟩
  obtain ⟨x1, x2, x3, x4⟩ := li_or64 r1 hr1
  obtain ⟨y1, y2, y3, y4, y5⟩ := li_not32 r0 h0
  rw [hq1] at x1 x2 x3 x4
  rw [hq0] at y1 y2 y3 y4 y5
  have HQ0 := Lib.hid y2
  have HQ1 := Lib.hid x2
  have S1 := Lib.hid x3
  have S0 := Lib.hid y3
  have X1 := Lib.hid x1
  have Y1 := Lib.hid y1
  clear h1 h2 h3 l1 l2 l3 h0 hr1 hr2 h5 h6 h7 h8 h9 hl hq1 hq0 x1 x2 x3 x4 y1 y2 y3 y4 y5
  go_enter Try.func7, Try.ntmps7
  go_upto_region 8 with (first | (go_at_call 9; (with_reducible refine (alive_any _).mono ?_); rintro e w' ⟨rfl, hb⟩; replace HM := Lib.hid (HM.out.call hb); clear hb) | (go_at_call 11; (with_reducible refine (great_3 a1 a2 a3 n1 c1 n2 c2 n3 c3 _ B1.out B2.out B3.out).mono ?_); rintro e w' ⟨rfl, hb⟩; replace HM := Lib.hid (HM.out.call hb); clear hb) | (go_at_call 12; (with_reducible refine (build_any a1 a2 a3 n1 c1 n2 c2 n3 c3 sp tl cl r0 r1 r2 r3 r4 r5 r6 r7 r8 r9 r10 b H5.out HB5 _ (HT1.out.under (Own.fin HM)) (HT2.out.under (Own.fin HM)) (HT3.out.under (Own.fin HM)) B1.out B2.out B3.out).mono ?_); rintro e w' ⟨gv, gw, ys, zs, rfl, hg, hg2, hne, hW, hW2, HYZ, hb⟩; have HM' := Lib.hid (HM.out.plus2 hb hg2 hW2 hg hW hne); clear HM hb hg hg2 hne hW hW2; have HM := HM'; clear HM') | ((with_reducible apply own_makes (cs := b8 32 (fun _ => 0)) (e := 5) (n := 32) HM); exact rfl; exact rfl; exact rfl; exact hmk.out; exact rfl; clear HM; intro w' gn HM) | ((with_reducible apply own_box HM); exact rfl; (conv => lhs; whnf); exact rfl; exact rfl; (first | (clear tg1 HM; intro w' g1 HM) | (clear tg2 HM; intro w' g2 HM) | (clear tg3 HM; intro w' g3 HM) | (clear tg4 HM; intro w' g4 HM) | (clear HM; intro w' g' HM))) | ((with_reducible apply own_alloc HM); exact rfl; (first | (with_reducible exact zeroPL) | (with_reducible exact zero11)); exact rfl; (first | (clear tg1 HM; intro w' g1 HM) | (clear tg2 HM; intro w' g2 HM) | (clear tg3 HM; intro w' g3 HM) | (clear tg4 HM; intro w' g4 HM) | (clear HM; intro w' g' HM))) | ((with_reducible apply own_cell HM); exact rfl; exact rfl; (first | (with_reducible exact oneInt) | (with_reducible exact oneBool) | (with_reducible exact oneU8) | (with_reducible exact oneBs) | (with_reducible exact oneTs)); exact sS; exact dS; exact rfl) | ((with_reducible apply own_load HM); exact rfl; exact rfl; (first | (with_reducible exact aggS3) | (with_reducible exact agg11)); exact sS; exact dS; exact tS; exact rfl) | ((with_reducible apply own_store HM); exact rfl; exact rfl; (conv => lhs; whnf); exact rfl; exact sS; exact vS; exact sS; (first | (with_reducible exact (aggS3).size) | (with_reducible exact (agg11).size) | (with_reducible exact (oneInt).size) | (with_reducible exact (oneBool).size) | (with_reducible exact (oneU8).size) | (with_reducible exact (oneBs).size) | (with_reducible exact (oneTs).size)); exact rfl; exact rfl; exact rfl; exact rfl; clear HM; intro w' HM))
  clear hmk k1 k3 k4
  go_loopw [41] (fun iv wr => ∃ j : Nat, j ≤ 32 ∧ iv = .int .i64 (j : Int) ∧ Hid (Own w wr ((gn, 5, b8 32 (fun i => if i < j then 42 else 0)) :: (gw, 5, b8 32 zs) :: (gv, 5, b8 16384 ys) :: (g2, 27, [.int .u8 (r0 : Int), .int .u8 (r1 : Int), .int .u8 (r2 : Int), .int .u8 (r3 : Int), .int .u8 (r4 : Int), .int .u8 (r5 : Int), .int .u8 (r6 : Int), .int .u8 (r7 : Int), .int .u8 (r8 : Int), .int .u8 (r9 : Int), .int .u8 (r10 : Int)]) :: (g1, 32, [.slice a1 n1 c1, .slice a2 n2 c2, .slice a3 n3 c3]) :: []))) (fun iv _ => 32 - (intOf iv).toNat)
  case atStart => exact ⟨0, by omega, rfl, HM⟩
  case round =>
    clear HM
    obtain ⟨j, hj, rfl, HM⟩ := hrel
    by_cases hlt : j < 32
    · have hlt' : (j : Int) < 32 := by omega
      have HJ := Lib.hid hlt
      clear hlt hj
      go_wp2_with (first | ((with_reducible apply own_b8s (v := 42) HM); exact rfl; exact rfl; exact rfl; (first | with_reducible exact .z | with_reducible exact .s .z | with_reducible exact .s (.s .z) | with_reducible exact .s (.s (.s .z))); (first | with_reducible exact .z | with_reducible exact .s .z | with_reducible exact .s (.s .z) | with_reducible exact .s (.s (.s .z))); exact oneU8; exact HJ.out; exact rfl; exact rfl; clear HM; intro w' HM) | ((with_reducible apply own_box HM); exact rfl; (conv => lhs; whnf); exact rfl; exact rfl; (first | (clear tg1 HM; intro w' g1 HM) | (clear tg2 HM; intro w' g2 HM) | (clear tg3 HM; intro w' g3 HM) | (clear tg4 HM; intro w' g4 HM) | (clear HM; intro w' g' HM))) | ((with_reducible apply own_alloc HM); exact rfl; (first | (with_reducible exact zeroPL) | (with_reducible exact zero11)); exact rfl; (first | (clear tg1 HM; intro w' g1 HM) | (clear tg2 HM; intro w' g2 HM) | (clear tg3 HM; intro w' g3 HM) | (clear tg4 HM; intro w' g4 HM) | (clear HM; intro w' g' HM))) | ((with_reducible apply own_cell HM); exact rfl; exact rfl; (first | (with_reducible exact oneInt) | (with_reducible exact oneBool) | (with_reducible exact oneU8) | (with_reducible exact oneBs) | (with_reducible exact oneTs)); exact sS; exact dS; exact rfl) | ((with_reducible apply own_load HM); exact rfl; exact rfl; (first | (with_reducible exact aggS3) | (with_reducible exact agg11)); exact sS; exact dS; exact tS; exact rfl) | ((with_reducible apply own_store HM); exact rfl; exact rfl; (conv => lhs; whnf); exact rfl; exact sS; exact vS; exact sS; (first | (with_reducible exact (aggS3).size) | (with_reducible exact (agg11).size) | (with_reducible exact (oneInt).size) | (with_reducible exact (oneBool).size) | (with_reducible exact (oneU8).size) | (with_reducible exact (oneBs).size) | (with_reducible exact (oneTs).size)); exact rfl; exact rfl; exact rfl; exact rfl; clear HM; intro w' HM))
      rw [upd_step (fun _ => 42)] at HM
      go_roundw
      case rel => exact ⟨j + 1, by have := HJ.out; omega, by go_num, HM⟩
      case measure => have := HJ.out; simp [intOf]; omega
    · obtain rfl : j = 32 := by omega
      rw [b8_ext (k := 32) (f := fun i => if i < 32 then 42 else 0) (g := fun _ => 42) (fun i hi => if_pos hi)] at HM
      clear hlt hj
      have LX : Hid (∀ i : Nat, (fun _ : Nat => 42) i < 256) := Lib.hid fun _ => by show 42 < 256; decide
      have hf : Hid (liC 16384 ys 32 (fun _ => 42) r0 r1 r2 r5 r6 r7 r8 r9 line = fun _ => 42) := Lib.hid (funext fun x => liC_const _ _ _ _ _ _ _ _ _ _ _ _)
      obtain ⟨o, ho⟩ : ∃ z, Hid (liO 16384 ys r1 r5 (line : Int) = z) := ⟨_, rfl⟩
      obtain ⟨c, hc⟩ : ∃ z, Hid (liK 16384 ys r0 r1 r5 r6 (line : Int) = z) := ⟨_, rfl⟩
      obtain ⟨cs, hcs⟩ : ∃ cs, (rcells (fun _ => 42) o c).take 256 = cs := ⟨_, rfl⟩
      have HTK : Hid (Take (rcells (fun _ => 42) o c) 256 cs) := Lib.hid (by rw [← hcs]; exact take_of _ _ (by rw [rcells_length]; decide))
      have HCS : Hid (∀ i, i < 256 → cs[i]? = some (.int .u8 42)) := Lib.hid fun i hi => by
        rw [← hcs, List.getElem?_take, if_pos hi]
        exact rcells_color (fun _ => 42) o c i hi
      clear hcs
      go_upto_region 14 with (first | (go_at_call 8; (with_reducible refine (draw_in (some ⟨gv, 0, none⟩) 16384 16384 ys (some ⟨gn, 0, none⟩) 32 32 (fun _ => 42) r0 r1 r2 r3 r4 r5 r6 r7 r8 r9 r10 line H0.out H1.out H2.out H5.out H6.out H7.out H8.out H9.out HL.out (line : Int) (Lib.hid rfl) (fun _ => 42) o c hf ho hc _ (HM.out.byteRow (.s (.s .z)) HYZ.out.1) (HM.out.byteRow .z LX.out)).mono ?_); rintro e w' ⟨rfl, hb⟩; replace HM := Lib.hid (HM.out.call hb); clear hb) | ((with_reducible apply own_alloc HM); exact rfl; (with_reducible exact zeroPL); exact rfl; clear HM; intro w' gp HM) | ((with_reducible apply own_lay HM); exact rfl; exact rfl; exact rfl; exact sS; exact sS; exact aggPL.size; (exact rcells_length _ _ _); (exact rcells_length _ _ _); (exact rcells_one _ _ _); exact rfl; exact rfl; clear HM; intro w' HM) | ((with_reducible apply own_load HM); exact rfl; exact rfl; exact agg256; (first | with_reducible exact .z | with_reducible exact .s .z | with_reducible exact .s (.s .z) | with_reducible exact .s (.s (.s .z))); exact .z; exact HTK.out; exact rfl) | ((with_reducible apply own_box HM); exact rfl; (conv => lhs; whnf); exact rfl; exact rfl; (first | (clear tg1 HM; intro w' g1 HM) | (clear tg2 HM; intro w' g2 HM) | (clear tg3 HM; intro w' g3 HM) | (clear tg4 HM; intro w' g4 HM) | (clear HM; intro w' g' HM))) | ((with_reducible apply own_alloc HM); exact rfl; (first | (with_reducible exact zeroPL) | (with_reducible exact zero11)); exact rfl; (first | (clear tg1 HM; intro w' g1 HM) | (clear tg2 HM; intro w' g2 HM) | (clear tg3 HM; intro w' g3 HM) | (clear tg4 HM; intro w' g4 HM) | (clear HM; intro w' g' HM))) | ((with_reducible apply own_cell HM); exact rfl; exact rfl; (first | (with_reducible exact oneInt) | (with_reducible exact oneBool) | (with_reducible exact oneU8) | (with_reducible exact oneBs) | (with_reducible exact oneTs)); exact sS; exact dS; exact rfl) | ((with_reducible apply own_load HM); exact rfl; exact rfl; (first | (with_reducible exact aggS3) | (with_reducible exact agg11)); exact sS; exact dS; exact tS; exact rfl) | ((with_reducible apply own_store HM); exact rfl; exact rfl; (conv => lhs; whnf); exact rfl; exact sS; exact vS; exact sS; (first | (with_reducible exact (aggS3).size) | (with_reducible exact (agg11).size) | (with_reducible exact (oneInt).size) | (with_reducible exact (oneBool).size) | (with_reducible exact (oneU8).size) | (with_reducible exact (oneBs).size) | (with_reducible exact (oneTs).size)); exact rfl; exact rfl; exact rfl; exact rfl; clear HM; intro w' HM))
      have HM' := Lib.hid HM.out.forget.forget.forget.forget
      clear HM; have HM := HM'; clear HM'
      go_loopw [55] (fun iv wr => ∃ j : Nat, j ≤ 256 ∧ iv = .int .i64 (j : Int) ∧ Hid (Own w wr ((g2, 27, [.int .u8 (r0 : Int), .int .u8 (r1 : Int), .int .u8 (r2 : Int), .int .u8 (r3 : Int), .int .u8 (r4 : Int), .int .u8 (r5 : Int), .int .u8 (r6 : Int), .int .u8 (r7 : Int), .int .u8 (r8 : Int), .int .u8 (r9 : Int), .int .u8 (r10 : Int)]) :: (g1, 32, [.slice a1 n1 c1, .slice a2 n2 c2, .slice a3 n3 c3]) :: []))) (fun iv _ => 256 - (intOf iv).toNat)
      case atStart => exact ⟨0, by omega, rfl, HM⟩
      case round =>
        clear HM
        obtain ⟨j, hj, rfl, HM⟩ := hrel
        by_cases hlt : j < 256
        · have hlt' : (j : Int) < 256 := by omega
          have HJ := Lib.hid hlt
          have HI := Lib.hid fun w' => idx_any cs j (.int .u8 42) hlt (HCS.out j hlt) w'
          clear hlt hj
          go_wp2_with (first | ((with_reducible apply own_index); exact rfl; exact rfl; exact rfl; exact HI.out; exact rfl) | ((with_reducible apply own_box HM); exact rfl; (conv => lhs; whnf); exact rfl; exact rfl; (first | (clear tg1 HM; intro w' g1 HM) | (clear tg2 HM; intro w' g2 HM) | (clear tg3 HM; intro w' g3 HM) | (clear tg4 HM; intro w' g4 HM) | (clear HM; intro w' g' HM))) | ((with_reducible apply own_alloc HM); exact rfl; (first | (with_reducible exact zeroPL) | (with_reducible exact zero11)); exact rfl; (first | (clear tg1 HM; intro w' g1 HM) | (clear tg2 HM; intro w' g2 HM) | (clear tg3 HM; intro w' g3 HM) | (clear tg4 HM; intro w' g4 HM) | (clear HM; intro w' g' HM))) | ((with_reducible apply own_cell HM); exact rfl; exact rfl; (first | (with_reducible exact oneInt) | (with_reducible exact oneBool) | (with_reducible exact oneU8) | (with_reducible exact oneBs) | (with_reducible exact oneTs)); exact sS; exact dS; exact rfl) | ((with_reducible apply own_load HM); exact rfl; exact rfl; (first | (with_reducible exact aggS3) | (with_reducible exact agg11)); exact sS; exact dS; exact tS; exact rfl) | ((with_reducible apply own_store HM); exact rfl; exact rfl; (conv => lhs; whnf); exact rfl; exact sS; exact vS; exact sS; (first | (with_reducible exact (aggS3).size) | (with_reducible exact (agg11).size) | (with_reducible exact (oneInt).size) | (with_reducible exact (oneBool).size) | (with_reducible exact (oneU8).size) | (with_reducible exact (oneBs).size) | (with_reducible exact (oneTs).size)); exact rfl; exact rfl; exact rfl; exact rfl; clear HM; intro w' HM))
          go_roundw
          case rel => exact ⟨j + 1, by have := HJ.out; omega, by go_num, HM⟩
          case measure => have := HJ.out; simp [intOf]; omega
        · obtain rfl : j = 256 := by omega
          clear hlt hj
          have x1 := X1.out
          have y1 := Y1.out
          go_upto_region 22 with (first | ((with_reducible apply built_by blt_sc _ _ _ _ _ _); exact rfl; (focus (go_simp; done)); exact rfl) | (go_at_call 12; (with_reducible refine (build_any none a2 a3 0 0 n2 c2 n3 c3 sp tl cl r0 r1 r2 r3 r4 r5 r6 r7 r8 r9 r10 b H5.out HB5 _ (TriRow.nil _ _ _) (HT2.out.under (Own.fin HM)) (HT3.out.under (Own.fin HM)) (by decide) B2.out B3.out).mono ?_); rintro e w' ⟨gv2, gw2, ys2, zs2, rfl, hg, hg2, hne, hW, hW2, HYZ2, hb⟩; have HM' := Lib.hid (HM.out.plus2 hb hg2 hW2 hg hW hne); clear HM hb hg hg2 hne hW hW2; have HM := HM'; clear HM') | ((with_reducible apply own_box HM); exact rfl; (conv => lhs; whnf); exact rfl; exact rfl; (first | (clear tg1 HM; intro w' g1 HM) | (clear tg2 HM; intro w' g2 HM) | (clear tg3 HM; intro w' g3 HM) | (clear tg4 HM; intro w' g4 HM) | (clear HM; intro w' g' HM))) | ((with_reducible apply own_alloc HM); exact rfl; (first | (with_reducible exact zeroPL) | (with_reducible exact zero11)); exact rfl; (first | (clear tg1 HM; intro w' g1 HM) | (clear tg2 HM; intro w' g2 HM) | (clear tg3 HM; intro w' g3 HM) | (clear tg4 HM; intro w' g4 HM) | (clear HM; intro w' g' HM))) | ((with_reducible apply own_cell HM); exact rfl; exact rfl; (first | (with_reducible exact oneInt) | (with_reducible exact oneBool) | (with_reducible exact oneU8) | (with_reducible exact oneBs) | (with_reducible exact oneTs)); exact sS; exact dS; exact rfl) | ((with_reducible apply own_load HM); exact rfl; exact rfl; (first | (with_reducible exact aggS3) | (with_reducible exact agg11)); exact sS; exact dS; exact tS; exact rfl) | ((with_reducible apply own_store HM); exact rfl; exact rfl; (conv => lhs; whnf); exact rfl; exact sS; exact vS; exact sS; (first | (with_reducible exact (aggS3).size) | (with_reducible exact (agg11).size) | (with_reducible exact (oneInt).size) | (with_reducible exact (oneBool).size) | (with_reducible exact (oneU8).size) | (with_reducible exact (oneBs).size) | (with_reducible exact (oneTs).size)); exact rfl; exact rfl; exact rfl; exact rfl; clear HM; intro w' HM))
          clear x1 y1
          have hN : Hid (spL 16384 ys2 q1 r5 (line : Int) = []) := Lib.hid (spL_none HB5.out rfl (HYZ2.out.2.2 (by trivial)))
          obtain ⟨f2, hf2⟩ : ∃ z, Hid (liC 16384 ys2 32 zs2 q0 q1 r2 r5 r6 r7 r8 r9 line = z) := ⟨_, rfl⟩
          have ho2 : Hid (liO 16384 ys2 q1 r5 (line : Int) = false) := Lib.hid (liO_none hN.out)
          have hc2 : Hid (liK 16384 ys2 q0 q1 r5 r6 (line : Int) = false) := Lib.hid (liK_none hN.out)
          have HF2 : Hid (∀ x, f2 x = liP 32 zs2 (gColor 16384 ys2 q0 r2 r8 r9 line x)) := Lib.hid fun x => by rw [← hf2.out]; exact liC_ground hN.out S1.out S0.out x
          go_upto_region 24 with (first | (go_at_call 8; (with_reducible refine (draw_in (some ⟨gv2, 0, none⟩) 16384 16384 ys2 (some ⟨gw2, 0, none⟩) 32 32 zs2 q0 q1 r2 r3 r4 r5 r6 r7 r8 r9 r10 line HQ0.out HQ1.out H2.out H5.out H6.out H7.out H8.out H9.out HL.out (line : Int) (Lib.hid rfl) f2 false false hf2 ho2 hc2 _ (HM.out.byteRow (.s .z) HYZ2.out.1) (HM.out.byteRow .z HYZ2.out.2.1)).mono ?_); rintro e w' ⟨rfl, hb⟩; replace HM := Lib.hid (HM.out.call hb); clear hb) | ((with_reducible apply own_alloc HM); exact rfl; (with_reducible exact zeroPL); exact rfl; clear HM; intro w' gp2 HM) | ((with_reducible apply own_lay HM); exact rfl; exact rfl; exact rfl; exact sS; exact sS; exact aggPL.size; (exact rcells_length _ _ _); (exact rcells_length _ _ _); (exact rcells_one _ _ _); exact rfl; exact rfl; clear HM; intro w' HM) | ((with_reducible apply own_box HM); exact rfl; (conv => lhs; whnf); exact rfl; exact rfl; (first | (clear tg1 HM; intro w' g1 HM) | (clear tg2 HM; intro w' g2 HM) | (clear tg3 HM; intro w' g3 HM) | (clear tg4 HM; intro w' g4 HM) | (clear HM; intro w' g' HM))) | ((with_reducible apply own_alloc HM); exact rfl; (first | (with_reducible exact zeroPL) | (with_reducible exact zero11)); exact rfl; (first | (clear tg1 HM; intro w' g1 HM) | (clear tg2 HM; intro w' g2 HM) | (clear tg3 HM; intro w' g3 HM) | (clear tg4 HM; intro w' g4 HM) | (clear HM; intro w' g' HM))) | ((with_reducible apply own_cell HM); exact rfl; exact rfl; (first | (with_reducible exact oneInt) | (with_reducible exact oneBool) | (with_reducible exact oneU8) | (with_reducible exact oneBs) | (with_reducible exact oneTs)); exact sS; exact dS; exact rfl) | ((with_reducible apply own_load HM); exact rfl; exact rfl; (first | (with_reducible exact aggS3) | (with_reducible exact agg11)); exact sS; exact dS; exact tS; exact rfl) | ((with_reducible apply own_store HM); exact rfl; exact rfl; (conv => lhs; whnf); exact rfl; exact sS; exact vS; exact sS; (first | (with_reducible exact (aggS3).size) | (with_reducible exact (agg11).size) | (with_reducible exact (oneInt).size) | (with_reducible exact (oneBool).size) | (with_reducible exact (oneU8).size) | (with_reducible exact (oneBs).size) | (with_reducible exact (oneTs).size)); exact rfl; exact rfl; exact rfl; exact rfl; clear HM; intro w' HM))
          go_loopw [17] (fun xv wr => ∃ x : Nat, x ≤ 256 ∧ xv = .int .i64 (x : Int) ∧ Hid (Own w wr [(gp2, 25, rcells f2 false false), (gw2, 5, b8 32 zs2), (gv2, 5, b8 16384 ys2), (g2, 27, [.int .u8 (q0 : Int), .int .u8 (q1 : Int), .int .u8 (r2 : Int), .int .u8 (r3 : Int), .int .u8 (r4 : Int), .int .u8 (r5 : Int), .int .u8 (r6 : Int), .int .u8 (r7 : Int), .int .u8 (r8 : Int), .int .u8 (r9 : Int), .int .u8 (r10 : Int)]), (g1, 32, [.slice a1 n1 c1, .slice a2 n2 c2, .slice a3 n3 c3])])) (fun xv _ => 256 - (intOf xv).toNat)
          case atStart => exact ⟨0, by omega, rfl, HM⟩
          case round =>
            clear HM
            obtain ⟨x, hx, rfl, HM⟩ := hrel
            by_cases hlt : x < 256
            · have hlt' : (x : Int) < 256 := by omega
              have HX := Lib.hid hlt
              obtain ⟨gc, hgc⟩ : ∃ z, Hid (gColor 16384 ys2 q0 r2 r8 r9 line x = z) := ⟨_, rfl⟩
              obtain ⟨gf, hgf⟩ : ∃ z, Hid (gFront 16384 ys2 q0 r2 r8 r9 line x = z) := ⟨_, rfl⟩
              have C32 : gc < 32 := hgc.out ▸ gColor_lt _ _ _ _ _ _ _ _
              have c2 : (gc : Int) < 32 := by omega
              obtain ⟨v, hv⟩ : ∃ v, f2 x = v := ⟨_, rfl⟩
              have gk : Hid ((gc : Int) % 32 = (gc : Int)) := Lib.hid (by omega)
              have gp : Hid (vget 32 zs2 gc % 64 = v) := Lib.hid (by rw [← hv, HF2.out x, hgc.out]; unfold liP; rw [Nat.mod_eq_of_lt C32])
              have HG : Hid ((rcells f2 false false)[x]? = some (.int .u8 (v : Int))) := Lib.hid (by rw [rcells_color f2 false false x hlt, hv])
              clear hlt hx hv C32
              go_upto_region 27 with (first | (go_at_call 17; (with_reducible refine (rback_in (some ⟨gv2, 0, none⟩) 16384 16384 ys2 q0 q1 r2 r3 r4 r5 r6 r7 r8 r9 r10 line x HQ0.out H2.out H8.out H9.out HL.out HX.out gc gf hgc hgf _ (HM.out.byteRow (.s (.s .z)) HYZ2.out.1)).mono ?_); rintro e w' ⟨rfl, hb⟩; replace HM := Lib.hid (HM.out.call hb); clear hb) | ((with_reducible apply own_box HM); exact rfl; (conv => lhs; whnf); exact rfl; exact rfl; (first | (clear tg1 HM; intro w' g1 HM) | (clear tg2 HM; intro w' g2 HM) | (clear tg3 HM; intro w' g3 HM) | (clear tg4 HM; intro w' g4 HM) | (clear HM; intro w' g' HM))) | ((with_reducible apply own_alloc HM); exact rfl; (first | (with_reducible exact zeroPL) | (with_reducible exact zero11)); exact rfl; (first | (clear tg1 HM; intro w' g1 HM) | (clear tg2 HM; intro w' g2 HM) | (clear tg3 HM; intro w' g3 HM) | (clear tg4 HM; intro w' g4 HM) | (clear HM; intro w' g' HM))) | ((with_reducible apply own_cell HM); exact rfl; exact rfl; (first | (with_reducible exact oneInt) | (with_reducible exact oneBool) | (with_reducible exact oneU8) | (with_reducible exact oneBs) | (with_reducible exact oneTs)); exact sS; exact dS; exact rfl) | ((with_reducible apply own_load HM); exact rfl; exact rfl; (first | (with_reducible exact aggS3) | (with_reducible exact agg11)); exact sS; exact dS; exact tS; exact rfl) | ((with_reducible apply own_store HM); exact rfl; exact rfl; (conv => lhs; whnf); exact rfl; exact sS; exact vS; exact sS; (first | (with_reducible exact (aggS3).size) | (with_reducible exact (agg11).size) | (with_reducible exact (oneInt).size) | (with_reducible exact (oneBool).size) | (with_reducible exact (oneU8).size) | (with_reducible exact (oneBs).size) | (with_reducible exact (oneTs).size)); exact rfl; exact rfl; exact rfl; exact rfl; clear HM; intro w' HM))
              (refine own_region HM (by kernel_rfl) (by kernel_rfl) ?_; (try simp only [Act.put, List.setIfInBounds_toArray, List.set_cons_zero, List.set_cons_succ]); repeat ((fail_if_success (with_reducible refine wpQuiet_nil ?_)); first | go_big_quiet_skip | (go_big_quiet_want; first | ((with_reducible apply quiet_get); exact rfl; exact bS3; (first | with_reducible exact .z | with_reducible exact .s .z | with_reducible exact .s (.s .z) | with_reducible exact .s (.s (.s .z)) | with_reducible exact .s (.s (.s (.s .z))) | with_reducible exact .s (.s (.s (.s (.s .z)))) | with_reducible exact .s (.s (.s (.s (.s (.s .z))))) | with_reducible exact HSA.out | with_reducible exact HSB.out | with_reducible exact HSC.out | with_reducible exact HSD.out); (first | exact HG.out); go_big_quiet_op; go_big_quiet_on) | (go_big_quiet_op; go_big_quiet_on) | ((with_reducible apply quiet_call); exact fun w => rfl; (focus (go_simp; all_goals with_reducible rfl)); (intro wq HQ; first | (with_reducible exact paint_at (some ⟨gw2, 0, none⟩) 32 32 zs2 (gc : Int) gc v gk gp _ (HQ.out.byteRow (.s .z) HYZ2.out.2.1))); go_big_quiet_op; go_big_quiet_on) | (go_big_quiet_op; go_big_quiet_on) | (go_big_quiet_op; refine ⟨_, fun _ _ => rfl, ?_⟩; go_big_quiet_on))))
              refine wpQuiet_nil ?_
              intro w' HM'
              clear HM; have HM := HM'; clear HM'
              go_wp2_with (first | ((with_reducible apply own_box HM); exact rfl; (conv => lhs; whnf); exact rfl; exact rfl; (first | (clear tg1 HM; intro w' g1 HM) | (clear tg2 HM; intro w' g2 HM) | (clear tg3 HM; intro w' g3 HM) | (clear tg4 HM; intro w' g4 HM) | (clear HM; intro w' g' HM))) | ((with_reducible apply own_alloc HM); exact rfl; (first | (with_reducible exact zeroPL) | (with_reducible exact zero11)); exact rfl; (first | (clear tg1 HM; intro w' g1 HM) | (clear tg2 HM; intro w' g2 HM) | (clear tg3 HM; intro w' g3 HM) | (clear tg4 HM; intro w' g4 HM) | (clear HM; intro w' g' HM))) | ((with_reducible apply own_cell HM); exact rfl; exact rfl; (first | (with_reducible exact oneInt) | (with_reducible exact oneBool) | (with_reducible exact oneU8) | (with_reducible exact oneBs) | (with_reducible exact oneTs)); exact sS; exact dS; exact rfl) | ((with_reducible apply own_load HM); exact rfl; exact rfl; (first | (with_reducible exact aggS3) | (with_reducible exact agg11)); exact sS; exact dS; exact tS; exact rfl) | ((with_reducible apply own_store HM); exact rfl; exact rfl; (conv => lhs; whnf); exact rfl; exact sS; exact vS; exact sS; (first | (with_reducible exact (aggS3).size) | (with_reducible exact (agg11).size) | (with_reducible exact (oneInt).size) | (with_reducible exact (oneBool).size) | (with_reducible exact (oneU8).size) | (with_reducible exact (oneBs).size) | (with_reducible exact (oneTs).size)); exact rfl; exact rfl; exact rfl; exact rfl; clear HM; intro w' HM))
              go_roundw
              case rel => exact ⟨x + 1, by have := HX.out; omega, by go_num, HM⟩
              case measure => have := HX.out; simp [intOf]; omega
            · obtain rfl : x = 256 := by omega
              have GO : Hid ((rcells f2 false false)[256]? = some (.bool false)) := Lib.hid (rcells_over f2 false false)
              have GK : Hid ((rcells f2 false false)[257]? = some (.bool false)) := Lib.hid (rcells_meets f2 false false)
              go_wp2_with (first | ((with_reducible apply own_get HM); exact rfl; exact rfl; (first | (with_reducible exact oneU8) | (with_reducible exact oneBool)); (first | with_reducible exact .z | with_reducible exact .s .z | with_reducible exact .s (.s .z) | with_reducible exact .s (.s (.s .z))); (first | exact GO.out | exact GK.out); exact rfl) | ((with_reducible apply own_box HM); exact rfl; (conv => lhs; whnf); exact rfl; exact rfl; (first | (clear tg1 HM; intro w' g1 HM) | (clear tg2 HM; intro w' g2 HM) | (clear tg3 HM; intro w' g3 HM) | (clear tg4 HM; intro w' g4 HM) | (clear HM; intro w' g' HM))) | ((with_reducible apply own_alloc HM); exact rfl; (first | (with_reducible exact zeroPL) | (with_reducible exact zero11)); exact rfl; (first | (clear tg1 HM; intro w' g1 HM) | (clear tg2 HM; intro w' g2 HM) | (clear tg3 HM; intro w' g3 HM) | (clear tg4 HM; intro w' g4 HM) | (clear HM; intro w' g' HM))) | ((with_reducible apply own_cell HM); exact rfl; exact rfl; (first | (with_reducible exact oneInt) | (with_reducible exact oneBool) | (with_reducible exact oneU8) | (with_reducible exact oneBs) | (with_reducible exact oneTs)); exact sS; exact dS; exact rfl) | ((with_reducible apply own_load HM); exact rfl; exact rfl; (first | (with_reducible exact aggS3) | (with_reducible exact agg11)); exact sS; exact dS; exact tS; exact rfl) | ((with_reducible apply own_store HM); exact rfl; exact rfl; (conv => lhs; whnf); exact rfl; exact sS; exact vS; exact sS; (first | (with_reducible exact (aggS3).size) | (with_reducible exact (agg11).size) | (with_reducible exact (oneInt).size) | (with_reducible exact (oneBool).size) | (with_reducible exact (oneU8).size) | (with_reducible exact (oneBs).size) | (with_reducible exact (oneTs).size)); exact rfl; exact rfl; exact rfl; exact rfl; clear HM; intro w' HM))
              go_ret
              exact ⟨rfl, Own.fin HM⟩
theorem over_any (a1 a2 a3 : Option Addr) (n1 c1 n2 c2 n3 c3 : Nat) (sp : Nat → Nat → Nat) (tl cl : Nat → Nat) (r0 r1 r2 r3 r4 r5 r6 r7 r8 r9 r10 : Nat) (L : Int) (h0 : r0 < 256) (hr1 : r1 < 256) (hr2 : r2 < 256) (h5 : r5 < 256) (h6 : r6 < 256) (h7 : r7 < 256) (h8 : r8 < 256) (h9 : r9 < 256) (w : World) (h1 : TriRow w a1 n1 sp) (h2 : ByteRow w a2 n2 tl) (h3 : ByteRow w a3 n3 cl) :
    Calls Try.prog 7 #[.agg #[.slice a1 n1 c1, .slice a2 n2 c2, .slice a3 n3 c3], regsV r0 r1 r2 r3 r4 r5 r6 r7 r8 r9 r10, .int .i64 L] w fun e w' => e = .returned (.bool true) ∧ Below w.heap.size w w' := by
  by_cases l1 : n1 ≤ 64
  · by_cases l2 : n2 ≤ 300
    · by_cases l3 : n3 ≤ 100
      · by_cases k1 : L < 0
        · exact over_3 a1 a2 a3 n1 c1 n2 c2 n3 c3 r0 r1 r2 r3 r4 r5 r6 r7 r8 r9 r10 L w l1 l2 l3 k1
        · by_cases k2 : 191 < L
          · exact over_4 a1 a2 a3 n1 c1 n2 c2 n3 c3 r0 r1 r2 r3 r4 r5 r6 r7 r8 r9 r10 L w l1 l2 l3 k2
          · obtain ⟨line, rfl⟩ := Int.eq_ofNat_of_zero_le (show 0 ≤ L by omega)
            exact over_in a1 a2 a3 n1 c1 n2 c2 n3 c3 sp tl cl r0 r1 r2 r3 r4 r5 r6 r7 r8 r9 r10 line h0 hr1 hr2 h5 h6 h7 h8 h9 (by omega) w h1 h2 h3 l1 l2 l3
      · exact over_2 a1 a2 a3 n1 c1 n2 c2 n3 c3 r0 r1 r2 r3 r4 r5 r6 r7 r8 r9 r10 L w l1 l2 (by omega)
    · exact over_1 a1 a2 a3 n1 c1 n2 c2 n3 c3 r0 r1 r2 r3 r4 r5 r6 r7 r8 r9 r10 L w l1 (by omega)
  · exact over_0 a1 a2 a3 n1 c1 n2 c2 n3 c3 r0 r1 r2 r3 r4 r5 r6 r7 r8 r9 r10 L w (by omega)
theorem blt_n (w : World) : (Instr.build 27 #[(0, .int .u8 32), (1, .int .u8 64), (5, .int .u8 126), (7, .int .u8 245)]).run Try.prog w = .ok (.agg #[.int .u8 32, .int .u8 64, .int .u8 0, .int .u8 0, .int .u8 0, .int .u8 126, .int .u8 0, .int .u8 245, .int .u8 0, .int .u8 0, .int .u8 0]) w := by kernel_rfl
theorem blt_5 (w : World) : (Instr.build 27 #[(7, .int .u8 5)]).run Try.prog w = .ok (.agg #[.int .u8 0, .int .u8 0, .int .u8 0, .int .u8 0, .int .u8 0, .int .u8 0, .int .u8 0, .int .u8 5, .int .u8 0, .int .u8 0, .int .u8 0]) w := by kernel_rfl
theorem draw_n (a2 : Option Addr) (cap2 : Nat) (w : World) (hV2 : ByteRow w a2 32 (upd (upd (fun _ => 0) 21 9) 0 4)) :
    Calls Try.prog 8 #[.slice none 0 0, .slice a2 32 cap2, .agg #[.int .u8 32, .int .u8 64, .int .u8 0, .int .u8 0, .int .u8 0, .int .u8 126, .int .u8 0, .int .u8 245, .int .u8 0, .int .u8 0, .int .u8 0], .int .i64 100] w fun e w' => ∃ f o c, e = .returned (rowV f o c) ∧ Hid (f 7 = 9 ∧ f 8 = 4) ∧ Below w.heap.size w w' :=
  (draw_in none 0 0 (fun _ => 0) a2 32 cap2 (upd (upd (fun _ => 0) 21 9) 0 4) 32 64 0 0 0 126 0 245 0 0 0 100 (by decide) (by decide) (by decide) (by decide) (by decide) (by decide) (by decide) (by decide) (by decide) 100 rfl _ _ _ rfl rfl rfl w (ByteRow.nil w none _) hV2).mono fun _ _ ⟨h1, h2⟩ => ⟨_, _, _, h1, Lib.hid ⟨by decide +kernel, by decide +kernel⟩, h2⟩
theorem draw_192 (a2 : Option Addr) (cap2 : Nat) (w : World) :
    Calls Try.prog 8 #[.slice none 0 0, .slice a2 32 cap2, .agg #[.int .u8 0, .int .u8 0, .int .u8 0, .int .u8 0, .int .u8 0, .int .u8 0, .int .u8 0, .int .u8 5, .int .u8 0, .int .u8 0, .int .u8 0], .int .i64 192] w fun e w' => e = .returned (rowV (fun _ => 0) false false) ∧ Below w.heap.size w w' :=
  draw_o none 0 0 a2 32 cap2 0 0 0 0 0 0 0 5 0 0 0 192 (by decide) w
theorem paint_53 (a : Option Addr) (cap : Nat) (w : World) (hV : ByteRow w a 32 (upd (upd (fun _ => 0) 21 9) 0 4)) : Calls Try.prog 10 #[.slice a 32 cap, .int .i64 53] w fun e w' => e = .returned (.int .u8 9) ∧ Below w.heap.size w w' := paint_at a 32 cap (upd (upd (fun _ => 0) 21 9) 0 4) 53 21 9 rfl rfl w hV
theorem paint_11 (a : Option Addr) (cap : Nat) (w : World) (hV : ByteRow w a 32 (upd (upd (fun _ => 0) 21 9) 0 4)) : Calls Try.prog 10 #[.slice a 32 cap, .int .i64 (-11)] w fun e w' => e = .returned (.int .u8 9) ∧ Below w.heap.size w w' := paint_at a 32 cap (upd (upd (fun _ => 0) 21 9) 0 4) (-11) 21 9 (by show _ = _; decide) rfl w hV
theorem paint_0 (w : World) : Calls Try.prog 10 #[.slice none 0 0, .int .i64 0] w fun e w' => e = .returned (.int .u8 0) ∧ Below w.heap.size w w' := paint_at none 0 0 (fun _ => 0) 0 0 0 rfl rfl w (ByteRow.nil w none _)
set_option maxRecDepth 100000 in
set_option maxHeartbeats 3200000 in
theorem names_any (w : World) : Calls Try.prog 3 #[] w fun e w' => e = .returned (.bool true) ∧ Below w.heap.size w w' := by
  have HM := Lib.hid (Own.start w)
  have tg1 : Hid True := trivial
  have tg2 : Hid True := trivial
  have hmk := Lib.hid (made_bytes 32 (by decide))
  have hs1 := Lib.hid (same_p (fun _ => 0) false false)
  have LX : Hid (∀ i, (upd (upd (fun _ => 0) 21 9) 0 4) i < 256) := Lib.hid (upd_lt (upd_lt (fun _ => by show 0 < 256; decide) 21 (by decide)) 0 (by decide))
  go_enter Try.func3, Try.ntmps3
  go_upto_region 5 with (first | ((with_reducible apply own_makes (cs := b8 32 (fun _ => 0)) (e := 5) (n := 32) HM); exact rfl; exact rfl; exact rfl; exact hmk.out; exact rfl; clear HM; intro w' g1 HM) | ((with_reducible apply own_b8 (i := 21) (v := 9) HM); exact rfl; exact rfl; exact rfl; exact oneU8; decide; exact rfl; exact rfl; clear HM; intro w' HM) | ((with_reducible apply own_b8 (i := 0) (v := 4) HM); exact rfl; exact rfl; exact rfl; exact oneU8; decide; exact rfl; exact rfl; clear HM; intro w' HM) | ((with_reducible apply built_by blt_n); exact rfl; (focus (go_simp; done)); exact rfl) | (go_at_call 8; (with_reducible refine (draw_n _ 32 _ (HM.out.byteRow (n := 32) (xs := upd (upd (fun _ => 0) 21 9) 0 4) .z LX.out)).mono ?_); rintro e w' ⟨fc, oc, kc, rfl, HFG, hb⟩; replace HM := Lib.hid (HM.out.call hb); clear hb) | ((with_reducible apply own_lay HM); exact rfl; exact rfl; exact rfl; exact sS; exact sS; exact aggPL.size; (exact rcells_length _ _ _); (exact rcells_length _ _ _); (exact rcells_one _ _ _); exact rfl; exact rfl; clear HM; intro w' HM) | ((with_reducible apply own_box HM); exact rfl; (conv => lhs; whnf); exact rfl; exact rfl; (first | (clear tg1 HM; intro w' g1 HM) | (clear tg2 HM; intro w' g2 HM) | (clear tg3 HM; intro w' g3 HM) | (clear tg4 HM; intro w' g4 HM) | (clear HM; intro w' g' HM))) | ((with_reducible apply own_alloc HM); exact rfl; (first | (with_reducible exact zeroPL)); exact rfl; (first | (clear tg1 HM; intro w' g1 HM) | (clear tg2 HM; intro w' g2 HM) | (clear tg3 HM; intro w' g3 HM) | (clear tg4 HM; intro w' g4 HM) | (clear HM; intro w' g' HM))) | ((with_reducible apply own_cell HM); exact rfl; exact rfl; (first | (with_reducible exact oneInt) | (with_reducible exact oneBool) | (with_reducible exact oneU8) | (with_reducible exact oneBs)); exact sS; exact dS; exact rfl) | ((with_reducible apply own_load HM); exact rfl; exact rfl; (first | (with_reducible exact agg11)); exact sS; exact dS; exact tS; exact rfl) | ((with_reducible apply own_store HM); exact rfl; exact rfl; (conv => lhs; whnf); exact rfl; exact sS; exact vS; exact sS; (first | (with_reducible exact (agg11).size) | (with_reducible exact (oneInt).size) | (with_reducible exact (oneBool).size) | (with_reducible exact (oneU8).size) | (with_reducible exact (oneBs).size)); exact rfl; exact rfl; exact rfl; exact rfl; clear HM; intro w' HM))
  clear hmk
  have G0 : Hid ((rcells fc oc kc)[7]? = some (.int .u8 9)) := Lib.hid (by rw [rcells_color _ _ _ 7 (by decide), HFG.out.1]; rfl)
  have G1 : Hid ((rcells fc oc kc)[8]? = some (.int .u8 4)) := Lib.hid (by rw [rcells_color _ _ _ 8 (by decide), HFG.out.2]; rfl)
  go_wp2_with (first | ((with_reducible apply own_get HM); exact rfl; exact rfl; (first | (with_reducible exact oneU8) | (with_reducible exact oneBool)); (first | with_reducible exact .z | with_reducible exact .s .z | with_reducible exact .s (.s .z) | with_reducible exact .s (.s (.s .z))); (first | exact G0.out | exact G1.out); exact rfl) | ((with_reducible apply built_by blt_5); exact rfl; (focus (go_simp; done)); exact rfl) | ((with_reducible apply built_by built_p); exact rfl; (focus (go_simp; done)); exact rfl) | (go_at_call 9; (with_reducible refine (alive_any _).mono ?_); rintro e w' ⟨rfl, hb⟩; replace HM := Lib.hid (HM.out.call hb); clear hb) | (go_at_call 10; (with_reducible refine (paint_53 _ 32 _ (HM.out.byteRow (n := 32) (xs := upd (upd (fun _ => 0) 21 9) 0 4) (.s .z) LX.out)).mono ?_); rintro e w' ⟨rfl, hb⟩; replace HM := Lib.hid (HM.out.call hb); clear hb) | (go_at_call 10; (with_reducible refine (paint_11 _ 32 _ (HM.out.byteRow (n := 32) (xs := upd (upd (fun _ => 0) 21 9) 0 4) (.s .z) LX.out)).mono ?_); rintro e w' ⟨rfl, hb⟩; replace HM := Lib.hid (HM.out.call hb); clear hb) | (go_at_call 10; (with_reducible refine (paint_0 _).mono ?_); rintro e w' ⟨rfl, hb⟩; replace HM := Lib.hid (HM.out.call hb); clear hb) | (go_at_call 8; (with_reducible refine (draw_192 _ 32 _).mono ?_); rintro e w' ⟨rfl, hb⟩; replace HM := Lib.hid (HM.out.call hb); clear hb; have hs0 := hs1.out))
  go_ret
  exact ⟨rfl, Own.fin HM⟩
set_option maxHeartbeats 800000 in
theorem paints_any (a : Option Addr) (n cap : Nat) (xs : Nat → Nat) (v : Int) (w : World) (hV : ByteRow w a n xs) :
    Calls Try.prog 5 #[.slice a n cap, .int .i64 v] w fun e w' => e = .returned (.bool true) ∧ Below w.heap.size w w' := by
  have HM := Lib.hid (Own.start w)
  have HV := Lib.hid hV
  obtain ⟨k, hk⟩ : ∃ k : Nat, Hid (v % 32 = (k : Int)) := ⟨(v % 32).toNat, by show _ = _; omega⟩
  obtain ⟨p, hp⟩ : ∃ p, Hid (vget n xs k % 64 = p) := ⟨_, rfl⟩
  clear hV
  by_cases h : 100 < n
  · have K1 : ((100 : Int) < (n : Int)) = True := eq_true (by omega)
    have K2 : (100 < n) = True := eq_true h
    clear h
    go_enter Try.func5, Try.ntmps5
    go_wp2_with (first | (go_at_call 9; (with_reducible refine (alive_any _).mono ?_); rintro e w' ⟨rfl, hb⟩; replace HM := Lib.hid (HM.out.call hb); clear hb))
    go_ret
    exact ⟨rfl, Own.fin HM⟩
  · have K1 : ((100 : Int) < (n : Int)) = False := eq_false (by omega)
    have K2 : (100 < n) = False := eq_false h
    clear h
    go_enter Try.func5, Try.ntmps5
    go_wp2_with (first | (go_at_call 9; (with_reducible refine (alive_any _).mono ?_); rintro e w' ⟨rfl, hb⟩; replace HM := Lib.hid (HM.out.call hb); clear hb) | (go_at_call 10; (with_reducible refine (paint_at a n cap xs v k p hk hp _ (HV.out.under (Own.fin HM))).mono ?_); rintro e w' ⟨rfl, hb⟩; replace HM := Lib.hid (HM.out.call hb); clear hb) | (go_at_call 16; (with_reducible refine (rpaint_at a n cap xs v k p hk hp _ (HV.out.under (Own.fin HM))).mono ?_); rintro e w' ⟨rfl, rfl⟩))
    go_ret
    exact ⟨rfl, Own.fin HM⟩
end Go.Proofs.Ytijjigacmmhloaa
