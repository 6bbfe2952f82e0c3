/-
  The law BusPapers returns true for every address, byte and half, and writes nothing that was there.
-/
import Derived.Test.YtlnoomganphbeaaBusOn
namespace Go.Proofs.Ytlnoomganphbeaa
open Go.RowKit

theorem write_is (W0 : World) (b g : Nat) (zs zs' rs : List Int) (a v : Int) (h0 : 0 ≤ a) (h1 : a ≤ 65535) (v0 : 0 ≤ v) (v1 : v ≤ 255) (w : World) (h : Hid (On W0 w b g zs rs)) (hz : Hid (writeOf zs a v = zs')) :
    Calls Try.prog 20 #[.pointer (some ⟨b, 0, none⟩), .int .u16 a, .int .u8 v] w fun e w' => e = .returned (.tuple #[]) ∧ Hid (On W0 w' b g zs' rs) ∧ Hid (w.grownBy w' (some b)) := by
  have hz' := hz.out
  subst hz'
  exact write_on W0 b g zs rs a v h0 h1 v0 v1 w h

/-- where the half of the PAPER begins that the mapper's first byte shows -/
def half (m : Int) : Int := if m / 4 % 2 = 0 then 0 else 16384
def papI (a m : Int) : Nat := 8192 + (a % 16384 + half m).toNat
theorem papI_lo (a m : Int) : 8192 ≤ papI a m ∧ papI a m < 40960 := by unfold papI half; split <;> omega

section
variable {zs rs : List Int} {M a v x : Int}
theorem m0_getD (hl : zs.length = 40964) (x : Int) (j : Nat) : (writeOf zs 65532 x).getD j 0 = if 40960 = j then x else if 8188 = j then x else zs.getD j 0 := by
  have e : writeOf zs 65532 x = (zs.set 8188 x).set 40960 x := by unfold writeOf placeSet placeOf; rfl
  rw [e, getD_set _ _ _ _ (by simp [hl]), getD_set _ _ _ _ (by simp [hl])]
theorem place_paper (h0 : 32768 ≤ a) (h1 : a < 49152) (hm : zs.getD 40960 0 / 8 % 2 = 1) : placeOf zs a = some (papI a (zs.getD 40960 0)) := by
  unfold placeOf papI half
  rw [if_neg (by omega), if_neg (by omega)]
theorem place_hid (h1 : a < 49152) (hm : zs.getD 40960 0 / 8 % 2 = 0) : placeOf zs a = none := by
  unfold placeOf
  rw [if_neg (by omega), if_pos (.inr hm)]
theorem read_paper (h0 : 32768 ≤ a) (h1 : a < 49152) (hm : zs.getD 40960 0 / 8 % 2 = 1) : readOf rs M zs a = zs.getD (papI a (zs.getD 40960 0)) 0 := by
  unfold readOf
  rw [place_paper h0 h1 hm]
theorem read_hid (h0 : 32768 ≤ a) (h1 : a < 49152) (hm : zs.getD 40960 0 / 8 % 2 = 0) : readOf rs M zs a = rs.getD (zs.getD 40963 0 % M * 16384 + a % 16384).toNat 0 := by
  unfold readOf
  rw [place_hid h1 hm]
  have e : bankOf zs a = zs.getD 40963 0 := by
    unfold bankOf
    rw [if_neg (by omega), show (a / 16384).toNat = 2 by omega]
  rw [e]
theorem write_paper (h0 : 32768 ≤ a) (h1 : a < 49152) (hm : zs.getD 40960 0 / 8 % 2 = 1) : writeOf zs a v = zs.set (papI a (zs.getD 40960 0)) v := by
  unfold writeOf placeSet
  rw [if_neg (by omega), place_paper h0 h1 hm]
theorem write_hid (h1 : a < 49152) (hm : zs.getD 40960 0 / 8 % 2 = 0) : writeOf zs a v = zs := by
  unfold writeOf placeSet
  rw [if_neg (by omega), place_hid h1 hm]
end

/-- all that the law's calls tell, one by one -/
structure Papers (rs : List Int) (M a v v' p q H : Int) (Z1 Z2 Z3 Z4 Z6 : List Int) : Prop where
  r0 : readOf rs M bus0 a = H
  w1 : writeOf bus0 65532 p = Z1
  w2 : writeOf Z1 a v = Z2
  r2 : readOf rs M Z2 a = v
  w3 : writeOf Z2 65532 q = Z3
  r3 : readOf rs M Z3 a = 0
  w4 : writeOf Z3 65532 0 = Z4
  r4 : readOf rs M Z4 a = H
  w5 : writeOf Z4 a v' = Z4
  w6 : writeOf Z4 65532 p = Z6
  r6 : readOf rs M Z6 a = v

theorem papers_all (rs : List Int) (M a v v' p q : Int) (h0 : 32768 ≤ a) (h1 : a < 49152) (hp : p = 8 ∧ q = 12 ∨ p = 12 ∧ q = 8) : ∃ H Z1 Z2 Z3 Z4 Z6, Papers rs M a v v' p q H Z1 Z2 Z3 Z4 Z6 := by
  have hp8 : p / 8 % 2 = 1 := by omega
  have hq8 : q / 8 % 2 = 1 := by omega
  have hne : papI a p ≠ papI a q := by unfold papI half; rcases hp with ⟨rfl, rfl⟩ | ⟨rfl, rfl⟩ <;> simp <;> omega
  have lp := papI_lo a p
  have lq := papI_lo a q
  obtain ⟨i, hi⟩ : ∃ i, i = papI a p := ⟨_, rfl⟩
  obtain ⟨k, hk⟩ : ∃ k, k = papI a q := ⟨_, rfl⟩
  rw [← hi] at hne lp
  rw [← hk] at hne lq
  obtain ⟨Z1, e1⟩ : ∃ Z, writeOf bus0 65532 p = Z := ⟨_, rfl⟩
  have g1 := m0_getD bus0_length p
  have l1 : Z1.length = 40964 := by rw [← e1, writeOf_length, bus0_length]
  rw [e1] at g1
  have m1 : Z1.getD 40960 0 = p := by rw [g1, if_pos rfl]
  have e2 : writeOf Z1 a v = Z1.set i v := by rw [write_paper h0 h1 (by rw [m1]; exact hp8), m1, hi]
  obtain ⟨Z2, e2'⟩ : ∃ Z, Z1.set i v = Z := ⟨_, rfl⟩
  have g2 := fun j => getD_set Z1 i j v (by omega)
  have l2 : Z2.length = 40964 := by rw [← e2', List.length_set, l1]
  rw [e2'] at e2 g2
  have m2 : Z2.getD 40960 0 = p := by rw [g2, if_neg (by omega), m1]
  obtain ⟨Z3, e3⟩ : ∃ Z, writeOf Z2 65532 q = Z := ⟨_, rfl⟩
  have g3 := m0_getD l2 q
  have l3 : Z3.length = 40964 := by rw [← e3, writeOf_length, l2]
  rw [e3] at g3
  have m3 : Z3.getD 40960 0 = q := by rw [g3, if_pos rfl]
  obtain ⟨Z4, e4⟩ : ∃ Z, writeOf Z3 65532 0 = Z := ⟨_, rfl⟩
  have g4 := m0_getD l3 0
  have l4 : Z4.length = 40964 := by rw [← e4, writeOf_length, l3]
  rw [e4] at g4
  have m4 : Z4.getD 40960 0 = 0 := by rw [g4, if_pos rfl]
  obtain ⟨Z6, e6⟩ : ∃ Z, writeOf Z4 65532 p = Z := ⟨_, rfl⟩
  have g6 := m0_getD l4 p
  rw [e6] at g6
  have m6 : Z6.getD 40960 0 = p := by rw [g6, if_pos rfl]
  have b0 : bus0.getD 40960 0 = 0 := by rw [bus0_getD]; rfl
  refine ⟨rs.getD (2 % M * 16384 + a % 16384).toNat 0, Z1, Z2, Z3, Z4, Z6, ?_, e1, e2, ?_, e3, ?_, e4, ?_, ?_, e6, ?_⟩
  · rw [read_hid h0 h1 (by rw [b0]; rfl), bus0_getD]; rfl
  · rw [read_paper h0 h1 (by rw [m2]; exact hp8), m2, ← hi, g2, if_pos rfl]
  · rw [read_paper h0 h1 (by rw [m3]; exact hq8), m3, ← hk, g3, if_neg (by omega), if_neg (by omega), g2, if_neg hne, g1, if_neg (by omega), if_neg (by omega), bus0_getD, if_neg (by omega), if_neg (by omega)]
  · rw [read_hid h0 h1 (by rw [m4]; rfl), g4, if_neg (by omega), if_neg (by omega), g3, if_neg (by omega), if_neg (by omega), g2, if_neg (by omega), g1, if_neg (by omega), if_neg (by omega), bus0_getD]; rfl
  · rw [write_hid h1 (by rw [m4]; rfl)]
  · rw [read_paper h0 h1 (by rw [m6]; exact hp8), m6, ← hi, g6, if_neg (by omega), if_neg (by omega), g4, if_neg (by omega), if_neg (by omega), g3, if_neg (by omega), if_neg (by omega), g2, if_pos rfl]

set_option maxRecDepth 100000 in
set_option maxHeartbeats 1600000 in
theorem papers_any (at' v : Int) (hf : Bool) (h0 : 0 ≤ at') (h1 : at' ≤ 65535) (v0 : 0 ≤ v) (v1 : v ≤ 255) (w : World) :
    Calls Try.prog 8 #[.int .u16 at', .int .u8 v, .bool hf] w fun e w' => e = .returned (.bool true) ∧ Below w.heap.size w w' := by
  have F4 : Hid (RomFit (imgRom 4) (bkI 4)) := fit_img 4 (by omega)
  obtain ⟨v', hv'⟩ : ∃ v', v' = (v + 1) % 256 := ⟨_, rfl⟩
  have u0 : 0 ≤ v' := by omega
  have u1 : v' ≤ 255 := by omega
  obtain ⟨a, ha⟩ : ∃ a, 32768 + at' % 16384 = a := ⟨_, rfl⟩
  have a0 : 32768 ≤ a := by omega
  have a1 : a < 49152 := by omega
  have hv'' : (v + 1) % 256 = v' := hv'.symm
  clear hv'
  cases hf
  case' false => obtain ⟨H, Z1, Z2, Z3, Z4, Z6, P⟩ := papers_all (imgRom 4) (bkI 4) a v v' 8 12 a0 a1 (by omega)
  case' true => obtain ⟨H, Z1, Z2, Z3, Z4, Z6, P⟩ := papers_all (imgRom 4) (bkI 4) a v v' 12 8 a0 a1 (by omega)
  all_goals
    have K0 := Lib.hid P.r0
    have K1 := Lib.hid P.w1
    have K2 := Lib.hid P.w2
    have K3 := Lib.hid P.r2
    have K4 := Lib.hid P.w3
    have K5 := Lib.hid P.r3
    have K6 := Lib.hid P.w4
    have K7 := Lib.hid P.r4
    have K8 := Lib.hid P.w5
    have K9 := Lib.hid P.w6
    have Ka := Lib.hid P.r6
    clear P
    go_enter Try.func8, Try.ntmps8
    go_wp2_with (first
      | (go_at_call 11; refine (alive_any _).mono ?_; rintro e w0 ⟨rfl, H0⟩)
      | (go_at_call 14; refine (image_open w 4 (by omega) _ H0.out).mono ?_; rintro e w1 ⟨a1, L1, rfl, H1, -⟩)
      | (go_at_call 10; refine (rom_img w _ _ 4 (by omega) _ (by assumption)).mono ?_; rintro e w2 ⟨g, rfl, H2, -⟩)
      | (go_at_call 9; refine (bus_cart w g _ _ (by assumption)).mono ?_; rintro e w3 ⟨b, rfl, H3, -⟩)
      | (go_at_call 20; refine (write_is w b g _ _ _ _ _ (by omega) (by omega) (by omega) (by omega) _ (by assumption) (by assumption)).mono ?_; rintro e w4 ⟨rfl, H4, -⟩)
      | (go_at_call 18; refine (read_on w b g _ _ _ F4 _ _ (by omega) (by omega) _ (by assumption) (by assumption)).mono ?_; rintro e w5 ⟨rfl, H5, -⟩))
    go_ret
    exact ⟨rfl, H5.out.2.2.1⟩

end Go.Proofs.Ytlnoomganphbeaa
