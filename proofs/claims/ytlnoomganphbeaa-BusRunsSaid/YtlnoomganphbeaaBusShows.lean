/-
  The law BusShows returns true for every number of banks, slot and pair of numbers, and writes nothing that was there.
-/
import Derived.Test.YtlnoomganphbeaaBusPapers
import Derived.Test.YtlnoomganphbeaaArrays
namespace Go.Proofs.Ytlnoomganphbeaa
open Go.RowKit

theorem at_on (W0 : World) (b g : Nat) (zs rs : List Int) (M : Int) (hM : Hid (RomFit rs M)) (x y v : Int) (w : World) (h : Hid (On W0 w b g zs rs)) (hv : Hid (rs.getD (x % M * 16384 + y % 16384).toNat 0 = v)) :
    Calls Try.prog 24 #[.pointer (some ⟨g, 0, none⟩), .int .i64 x, .int .i64 y] w fun e w' => e = .returned (.int .u8 v) ∧ w = w' := by
  have hv' := hv.out
  subst hv'
  exact at_any g rs M hM.out w h.out.2.1 x y
theorem banks_on (W0 : World) (b g : Nat) (zs rs : List Int) (M : Int) (hM : Hid (RomFit rs M)) (w : World) (h : Hid (On W0 w b g zs rs)) :
    Calls Try.prog 25 #[.pointer (some ⟨g, 0, none⟩)] w fun e w' => e = .returned (.int .i64 M) ∧ w = w' :=
  banks_any g rs M hM.out w h.out.2.1

/-- all that the law's calls tell -/
structure Shows (rs : List Int) (M s n o v : Int) (Z : List Int) : Prop where
  w1 : writeOf bus0 (65533 + s) n = Z
  r1 : readOf rs M Z (s * 16384 + o) = v

theorem shows_place (s n : Int) (h0 : 0 ≤ s) (h2 : s ≤ 2) (j : Nat) : (writeOf bus0 (65533 + s) n).getD j 0 = if 40961 + s.toNat = j then n else if 8189 + s.toNat = j then n else bus0.getD j 0 := by
  have e : writeOf bus0 (65533 + s) n = (bus0.set (8189 + s.toNat) n).set (40961 + s.toNat) n := by
    unfold writeOf placeSet placeOf
    rw [if_pos (by omega), if_pos (by omega)]
    show (bus0.set _ n).set _ n = _
    rw [show ((65533 + s) % 8192).toNat = 8189 + s.toNat by omega, show 40960 + (65533 + s - 65532).toNat = 40961 + s.toNat by omega]
  rw [e, getD_set _ _ _ _ (by simp [bus0_length]; omega), getD_set _ _ _ _ (by simp [bus0_length]; omega)]
theorem shows_all (rs : List Int) (M s n o : Int) (h0 : 0 ≤ s) (h2 : s ≤ 2) (o0 : 0 ≤ o) (o1 : o < 16384) :
    ∃ Z, Shows rs M s n o (rs.getD ((if s = 0 ∧ o < 1024 then 0 else n) % M * 16384 + o % 16384).toNat 0) Z := by
  obtain ⟨Z, hZ⟩ : ∃ Z, writeOf bus0 (65533 + s) n = Z := ⟨_, rfl⟩
  have g := shows_place s n h0 h2
  rw [hZ] at g
  refine ⟨Z, hZ, ?_⟩
  have hp : placeOf Z (s * 16384 + o) = none := by
    unfold placeOf
    rw [if_neg (by omega), if_pos]
    right
    rw [g, if_neg (by omega), if_neg (by omega), bus0_getD]; rfl
  have hk : bankOf Z (s * 16384 + o) = if s = 0 ∧ o < 1024 then 0 else n := by
    unfold bankOf
    by_cases hc : s * 16384 + o < 1024
    · rw [if_pos hc, if_pos (by omega)]
    · rw [if_neg hc, if_neg (by omega), g, if_pos (by omega)]
  unfold readOf
  rw [hp, hk]
  show rs.getD _ 0 = _
  rw [show (s * 16384 + o) % 16384 = o % 16384 by omega]

set_option maxRecDepth 100000 in
set_option maxHeartbeats 1600000 in
theorem shows_out (banks s x y : Int) (hh : (banks < 1 ∨ 12 < banks) ∨ (s < 0 ∨ 2 < s)) (w : World) :
    Calls Try.prog 7 #[.int .i64 banks, .int .i64 s, .agg #[.int .u16 x, .int .u16 y]] w fun e w' => e = .returned (.bool true) ∧ Below w.heap.size w w' := by
  have hw : Hid (Below w.heap.size w (w.alloc (.cells #[.int .u16 x, .int .u16 y] 53))) := (Below.refl _ _).alloc (Nat.le_refl _) _
  by_cases h1 : banks < 1
  case' neg =>
    by_cases h2 : 12 < banks
    case' neg =>
      by_cases h3 : s < 0
      case' neg => have h4 : 2 < s := by omega
  all_goals
    clear hh
    go_enter Try.func7, Try.ntmps7
    go_wp2_with (go_at_call 11; refine (alive_any _).mono ?_; rintro e w0 ⟨rfl, H0⟩)
    go_ret
    exact ⟨rfl, below_next hw.out H0.out⟩

theorem On.old {W0 w : World} {b g : Nat} {zs rs : List Int} (h : Hid (On W0 w b g zs rs)) {o i : Nat} {v : Value} (hc : W0.cell? ⟨o, i, none⟩ = some v) (ho : o < W0.heap.size) : w.cell? ⟨o, i, none⟩ = some v :=
  (h.out.2.2.1.cell (p := ⟨o, i, none⟩) ho).trans hc

set_option maxRecDepth 100000 in
set_option maxHeartbeats 3200000 in
theorem shows_in (nb : Nat) (hn0 : 1 ≤ nb) (hn : nb ≤ 12) (s x y : Int) (s0 : 0 ≤ s) (s2 : s ≤ 2) (x0 : 0 ≤ x) (x1 : x ≤ 65535) (w : World) :
    Calls Try.prog 7 #[.int .i64 nb, .int .i64 s, .agg #[.int .u16 x, .int .u16 y]] w fun e w' => e = .returned (.bool true) ∧ Below w.heap.size w w' := by
  have hw : Hid (Below w.heap.size w (w.alloc (.cells #[.int .u16 x, .int .u16 y] 53))) := (Below.refl _ _).alloc (Nat.le_refl _) _
  have HB := Whole.fresh w 53 [.int .u16 x, .int .u16 y]
  obtain ⟨W1, hW1⟩ : ∃ W1, W1 = w.alloc (.cells #[.int .u16 x, .int .u16 y] 53) := ⟨_, rfl⟩
  have F : Hid (RomFit (imgRom nb) (bkI nb)) := fit_img nb hn
  obtain ⟨rs, hrs⟩ : ∃ rs, rs = imgRom nb := ⟨_, rfl⟩
  obtain ⟨M, hM⟩ : ∃ M, M = bkI nb := ⟨_, rfl⟩
  have HRS : Hid (imgRom nb = rs) := hrs.symm
  rw [← hrs, ← hM] at F
  have hMb := F.out.bd
  obtain ⟨hM0, hM1⟩ := hMb
  obtain ⟨n, hn'⟩ : ∃ n, y % 256 = n := ⟨_, rfl⟩
  obtain ⟨o, ho'⟩ : ∃ o, x % 16384 = o := ⟨_, rfl⟩
  have n0 : 0 ≤ n := by omega
  have n1 : n ≤ 255 := by omega
  have o0 : 0 ≤ o := by omega
  have o1 : o < 16384 := by omega
  have c0 : W1.cell? ⟨w.heap.size, 0, none⟩ = some (.int .u16 x) := by rw [hW1]; exact HB.at_ 0
  have c1 : W1.cell? ⟨w.heap.size, 1, none⟩ = some (.int .u16 y) := by rw [hW1]; exact HB.at_ 1
  have C0 := Lib.hid c0
  have C1 := Lib.hid c1
  have HL : Hid (w.heap.size < W1.heap.size) := by show _ < _; rw [hW1]; simp
  have HW1 := Lib.hid hW1
  rw [← hW1] at hw
  obtain ⟨Z, P⟩ := shows_all rs M s n o s0 s2 o0 o1
  have K1 := Lib.hid P.w1
  have K2 := Lib.hid P.r1
  have hmod : n % M % M = n % M := Int.emod_emod_of_dvd _ (Int.dvd_refl _)
  have hM' : (M == 0) = false := by simp; omega
  clear P c0 c1 hM hrs hW1 HB
  have hs : s = 0 ∨ s = 1 ∨ s = 2 := by omega
  by_cases hlow : s = 0 ∧ o < 1024
  · obtain ⟨rfl, hl⟩ := hlow
    rw [if_pos ⟨rfl, hl⟩] at K2
    obtain ⟨v, hv⟩ : ∃ v, rs.getD (0 % M * 16384 + o % 16384).toNat 0 = v := ⟨_, rfl⟩
    have KV := Lib.hid hv
    rw [hv] at K2
    have K1' : Hid (writeOf bus0 65533 n = Z) := K1.out; have K2' : Hid (readOf rs M Z (o) = v) := (show (0 : Int) * 16384 + o = o by omega) ▸ K2; clear K1 K2
    clear hv hmod hs
    go_enter Try.func7, Try.ntmps7
    go_wp2_with (first
      | (go_at_call 11; refine (alive_any _).mono ?_; rintro e w0 ⟨rfl, H0'⟩; have H0 : Hid (Below W1.heap.size W1 w0) := by (rw [HW1.out]; exact H0'))
      | (go_at_call 14; refine (image_open W1 nb hn _ H0.out).mono ?_; rintro e w1 ⟨a1, L1, rfl, H1, -⟩)
      | (go_at_call 10; refine (rom_img W1 _ _ nb hn _ (by assumption)).mono ?_; rw [HRS.out]; rintro e w2 ⟨g, rfl, H2, -⟩)
      | (go_at_call 9; refine (bus_cart W1 g _ _ (by assumption)).mono ?_; rintro e w3 ⟨b, rfl, H3, -⟩; have c1 := On.old H3 C1.out HL.out)
      | (go_at_call 20; refine (write_is W1 b g _ _ _ _ _ (by omega) (by omega) (by omega) (by omega) _ (by assumption) (by assumption)).mono ?_; rintro e w4 ⟨rfl, H4, -⟩; have c0 := On.old H4 C0.out HL.out)
      | (go_at_call 18; refine (read_on W1 b g _ _ _ F _ _ (by omega) (by omega) _ (by assumption) (by assumption)).mono ?_; rintro e w5 ⟨rfl, H5, -⟩)
      | (go_at_call 25; refine (banks_on W1 b g _ _ M F _ (by assumption)).mono ?_; rintro e w' ⟨rfl, rfl⟩)
      | (go_at_call 24; refine (at_on W1 b g _ _ M F _ _ _ _ (by assumption) (by assumption)).mono ?_; rintro e w' ⟨rfl, rfl⟩))
    go_ret
    exact ⟨rfl, below_next hw.out H5.out.2.2.1⟩
  · rw [if_neg hlow] at K2
    obtain ⟨v, hv⟩ : ∃ v, rs.getD (n % M * 16384 + o % 16384).toNat 0 = v := ⟨_, rfl⟩
    have KV := Lib.hid hv
    rw [hv] at K2
    obtain ⟨r, hr⟩ : ∃ r, n % M = r := ⟨_, rfl⟩
    have KW : Hid (rs.getD (r % M * 16384 + o % 16384).toNat 0 = v) := by show _ = _; rw [← hr, hmod]; exact hv
    have hnm : n % M = r := hr
    clear hv hmod
    rcases hs with rfl | rfl | rfl
    case' inl => have hlo : ¬ o < 1024 := fun h => hlow ⟨rfl, h⟩
    case' inl => have K1' : Hid (writeOf bus0 65533 n = Z) := K1.out; have K2' : Hid (readOf rs M Z (o) = v) := (show (0 : Int) * 16384 + o = o by omega) ▸ K2; clear K1 K2
    case' inr.inl => have K1' : Hid (writeOf bus0 65534 n = Z) := K1.out; have K2' : Hid (readOf rs M Z (16384 + o) = v) := (show (1 : Int) * 16384 + o = 16384 + o by omega) ▸ K2; clear K1 K2
    case' inr.inr => have K1' : Hid (writeOf bus0 65535 n = Z) := K1.out; have K2' : Hid (readOf rs M Z (32768 + o) = v) := (show (2 : Int) * 16384 + o = 32768 + o by omega) ▸ K2; clear K1 K2
    all_goals
      clear hlow
      go_enter Try.func7, Try.ntmps7
      go_wp2_with (first
        | (go_at_call 11; refine (alive_any _).mono ?_; rintro e w0 ⟨rfl, H0'⟩; have H0 : Hid (Below W1.heap.size W1 w0) := by (rw [HW1.out]; exact H0'))
        | (go_at_call 14; refine (image_open W1 nb hn _ H0.out).mono ?_; rintro e w1 ⟨a1, L1, rfl, H1, -⟩)
        | (go_at_call 10; refine (rom_img W1 _ _ nb hn _ (by assumption)).mono ?_; rw [HRS.out]; rintro e w2 ⟨g, rfl, H2, -⟩)
        | (go_at_call 9; refine (bus_cart W1 g _ _ (by assumption)).mono ?_; rintro e w3 ⟨b, rfl, H3, -⟩; have c1 := On.old H3 C1.out HL.out)
        | (go_at_call 20; refine (write_is W1 b g _ _ _ _ _ (by omega) (by omega) (by omega) (by omega) _ (by assumption) (by assumption)).mono ?_; rintro e w4 ⟨rfl, H4, -⟩; have c0 := On.old H4 C0.out HL.out)
        | (go_at_call 18; refine (read_on W1 b g _ _ _ F _ _ (by omega) (by omega) _ (by assumption) (by assumption)).mono ?_; rintro e w5 ⟨rfl, H5, -⟩)
        | (go_at_call 25; refine (banks_on W1 b g _ _ M F _ (by assumption)).mono ?_; rintro e w' ⟨rfl, rfl⟩)
        | (go_at_call 24; refine (at_on W1 b g _ _ M F _ _ _ _ (by assumption) (by assumption)).mono ?_; rintro e w' ⟨rfl, rfl⟩))
      go_ret
      exact ⟨rfl, below_next hw.out H5.out.2.2.1⟩

theorem shows_any (banks s x y : Int) (x0 : 0 ≤ x) (x1 : x ≤ 65535) (w : World) :
    Calls Try.prog 7 #[.int .i64 banks, .int .i64 s, .agg #[.int .u16 x, .int .u16 y]] w fun e w' => e = .returned (.bool true) ∧ Below w.heap.size w w' := by
  by_cases hh : (banks < 1 ∨ 12 < banks) ∨ (s < 0 ∨ 2 < s)
  · exact shows_out banks s x y hh w
  · obtain ⟨n, rfl⟩ := Int.eq_ofNat_of_zero_le (show 0 ≤ banks by omega)
    exact shows_in n (by omega) (by omega) s x y (by omega) (by omega) x0 x1 w

end Go.Proofs.Ytlnoomganphbeaa
