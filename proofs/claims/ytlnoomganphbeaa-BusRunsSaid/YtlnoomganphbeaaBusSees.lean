/-
  The law BusSees returns true for every number of banks, mapper bytes and address, and writes nothing that was there.
-/
import Derived.Test.YtlnoomganphbeaaBusCore
namespace Go.Proofs.Ytlnoomganphbeaa
open Go.RowKit

theorem core_made {W0 w3 w6 w7 : World} {b g r gr ga gp : Nat} {rs : List Int} (h : On W0 w3 b g bus0 rs) (h1 : Below w3.heap.size w3 w6) (hR : RefIn w7 r gr ga gp bus0 rs) (hr : w6.heap.size ≤ r) (ha : w6.heap.size ≤ ga) (hp : w6.heap.size ≤ gp) (h2 : Below w6.heap.size w6 w7) :
    ∃ d, Core W0 w7 b g d r gr ga gp bus0 bus0 rs := by
  have h6 := h.next h1
  have h7 := h6.next h2
  obtain ⟨d, k, sem, s, r1, r2, r3⟩ := h6.2.1
  have hd := r2.inside
  have hb := h6.2.2.1.size
  exact ⟨d, h7.1, ⟨k, sem, s, r1.under h2 r1.inside, r2.under h2 hd, r3⟩, hR, h7.2.2.1, h7.2.2.2, by omega, by omega, by omega, by omega, by omega⟩

/-- all bytes behind k writes into the mapper -/
def mapW (ms : List Int) : Nat → List Int
  | 0 => bus0
  | k + 1 => writeOf (mapW ms k) (65532 + k) (ms.getD k 0)

set_option maxRecDepth 100000 in
set_option maxHeartbeats 1600000 in
theorem sees_out (banks a m0 m1 m2 m3 : Int) (hh : banks < 0 ∨ 12 < banks) (w : World) :
    Calls Try.prog 5 #[.int .i64 banks, .agg #[.int .u8 m0, .int .u8 m1, .int .u8 m2, .int .u8 m3], .int .u16 a] w fun e w' => e = .returned (.bool true) ∧ Below w.heap.size w w' := by
  have hw : Hid (Below w.heap.size w (w.alloc (.cells #[.int .u8 m0, .int .u8 m1, .int .u8 m2, .int .u8 m3] 46))) := (Below.refl _ _).alloc (Nat.le_refl _) _
  by_cases h1 : banks < 0
  case' neg => have h2 : 12 < banks := by omega
  all_goals
    clear hh
    go_enter Try.func5, Try.ntmps5
    go_wp2_with (go_at_call 11; refine (alive_any _).mono ?_; rintro e w0 ⟨rfl, H0⟩)
    go_ret
    exact ⟨rfl, below_next hw.out H0.out⟩

set_option maxRecDepth 100000 in
set_option maxHeartbeats 3200000 in
theorem sees_in (nb : Nat) (hn : nb ≤ 12) (a m0 m1 m2 m3 : Int) (a0 : 0 ≤ a) (a1 : a ≤ 65535) (b0 : 0 ≤ m0 ∧ m0 ≤ 255) (b1 : 0 ≤ m1 ∧ m1 ≤ 255) (b2 : 0 ≤ m2 ∧ m2 ≤ 255) (b3 : 0 ≤ m3 ∧ m3 ≤ 255) (w : World) :
    Calls Try.prog 5 #[.int .i64 nb, .agg #[.int .u8 m0, .int .u8 m1, .int .u8 m2, .int .u8 m3], .int .u16 a] w fun e w' => e = .returned (.bool true) ∧ Below w.heap.size w w' := by
  have hw : Hid (Below w.heap.size w (w.alloc (.cells #[.int .u8 m0, .int .u8 m1, .int .u8 m2, .int .u8 m3] 46))) := (Below.refl _ _).alloc (Nat.le_refl _) _
  have HB := Whole.fresh w 46 [.int .u8 m0, .int .u8 m1, .int .u8 m2, .int .u8 m3]
  obtain ⟨W1, hW1⟩ : ∃ W1, W1 = w.alloc (.cells #[.int .u8 m0, .int .u8 m1, .int .u8 m2, .int .u8 m3] 46) := ⟨_, rfl⟩
  have F : Hid (RomFit (imgRom nb) (bkI nb)) := fit_img nb hn
  obtain ⟨rs, hrs⟩ : ∃ rs, imgRom nb = rs := ⟨_, rfl⟩
  obtain ⟨M, hM⟩ : ∃ M, bkI nb = M := ⟨_, rfl⟩
  have HRS := Lib.hid hrs
  rw [hrs, hM] at F
  have C0 : Hid (W1.cell? ⟨w.heap.size, 0, none⟩ = some (.int .u8 m0)) := by show _ = _; rw [hW1]; exact HB.at_ 0
  have C1 : Hid (W1.cell? ⟨w.heap.size, 1, none⟩ = some (.int .u8 m1)) := by show _ = _; rw [hW1]; exact HB.at_ 1
  have C2 : Hid (W1.cell? ⟨w.heap.size, 2, none⟩ = some (.int .u8 m2)) := by show _ = _; rw [hW1]; exact HB.at_ 2
  have C3 : Hid (W1.cell? ⟨w.heap.size, 3, none⟩ = some (.int .u8 m3)) := by show _ = _; rw [hW1]; exact HB.at_ 3
  have HL : Hid (w.heap.size < W1.heap.size) := by show _ < _; rw [hW1]; simp
  have HW1 := Lib.hid hW1
  rw [← hW1] at hw
  obtain ⟨b00, b01⟩ := b0
  obtain ⟨b10, b11⟩ := b1
  obtain ⟨b20, b21⟩ := b2
  obtain ⟨b30, b31⟩ := b3
  have i0 : ∀ w, (Instr.index 46 (.agg #[.int .u8 m0, .int .u8 m1, .int .u8 m2, .int .u8 m3]) (.int .i64 0)).run Try.prog w = .ok (.int .u8 m0) w := fun _ => by kernel_rfl
  have i1 : ∀ w, (Instr.index 46 (.agg #[.int .u8 m0, .int .u8 m1, .int .u8 m2, .int .u8 m3]) (.int .i64 1)).run Try.prog w = .ok (.int .u8 m1) w := fun _ => by kernel_rfl
  have i2 : ∀ w, (Instr.index 46 (.agg #[.int .u8 m0, .int .u8 m1, .int .u8 m2, .int .u8 m3]) (.int .i64 2)).run Try.prog w = .ok (.int .u8 m2) w := fun _ => by kernel_rfl
  have i3 : ∀ w, (Instr.index 46 (.agg #[.int .u8 m0, .int .u8 m1, .int .u8 m2, .int .u8 m3]) (.int .i64 3)).run Try.prog w = .ok (.int .u8 m3) w := fun _ => by kernel_rfl
  clear hM hrs hW1 HB
  go_enter Try.func5, Try.ntmps5
  go_wp2_with (first
    | (go_at_call 11; refine (alive_any _).mono ?_; rintro e w0 ⟨rfl, H0'⟩; have H0 : Hid (Below W1.heap.size W1 w0) := by (rw [HW1.out]; exact H0'))
    | (go_at_call 14; refine (image_open W1 nb hn _ H0.out).mono ?_; rintro e w1 ⟨a1', L1, rfl, H1, -⟩; clear H0)
    | (go_at_call 10; refine (rom_img W1 _ _ nb hn _ (by assumption)).mono ?_; rw [HRS.out]; rintro e w2 ⟨g, rfl, H2, -⟩)
    | (go_at_call 9; refine (bus_cart W1 g _ _ (by assumption)).mono ?_; rintro e w3 ⟨b, rfl, H3, -⟩)
    | (go_at_call 14; refine (image_open W1 nb hn _ H3.out.2.2.1).mono ?_; rintro e w4 ⟨a4, L4, rfl, H4, B4⟩)
    | (go_at_call 16; refine (rnew_img W1 _ _ nb hn _ H4).mono ?_; rw [HRS.out]; rintro e w5 ⟨gr, R, rfl, HR, H5, B5⟩)
    | (go_at_call 15; refine (rbnew_any gr rs R HR _ H5).mono ?_; rintro e w7 ⟨r, ga, gp, rfl, H7, n1, n2, n3, B7⟩; obtain ⟨d, KC⟩ := core_made H3.out (below_next B4.out B5.out) H7 n1 n2 n3 B7; have K := Lib.hid KC; clear KC H1 H2 H3 H4 H5 H7 B4 B5 B7 HR n1 n2 n3; have c0 : w7.cell? ⟨w.heap.size, 0, none⟩ = some (.int .u8 m0) := (K.out.bel.cell (p := ⟨w.heap.size, 0, none⟩) HL.out).trans C0.out; have c1 : w7.cell? ⟨w.heap.size, 1, none⟩ = some (.int .u8 m1) := (K.out.bel.cell (p := ⟨w.heap.size, 1, none⟩) HL.out).trans C1.out; have c2 : w7.cell? ⟨w.heap.size, 2, none⟩ = some (.int .u8 m2) := (K.out.bel.cell (p := ⟨w.heap.size, 2, none⟩) HL.out).trans C2.out; have c3 : w7.cell? ⟨w.heap.size, 3, none⟩ = some (.int .u8 m3) := (K.out.bel.cell (p := ⟨w.heap.size, 3, none⟩) HL.out).trans C3.out))
  clear c0 c1 c2 c3
  go_loopw [28, 9, 10] (fun i _ _ wr => ∃ k : Nat, k ≤ 4 ∧ i = .int .i64 k ∧ Hid (Core W1 wr b g d r gr ga gp (mapW [m0, m1, m2, m3] k) (mapW [m0, m1, m2, m3] k) rs)) (fun i _ _ _ => 4 - (intOf i).toNat)
  case atStart => exact ⟨0, by omega, rfl, K⟩
  case round =>
    clear K
    obtain ⟨k, hk, rfl, K⟩ := hrel
    by_cases hlt : k < 4
    · have HZ : Hid (writeOf (mapW [m0, m1, m2, m3] k) (65532 + k) (([m0, m1, m2, m3] : List Int).getD k 0) = mapW [m0, m1, m2, m3] (k + 1)) := rfl
      obtain ⟨Z, hZ⟩ : ∃ Z, mapW [m0, m1, m2, m3] k = Z := ⟨_, rfl⟩
      obtain ⟨Z', hZ'⟩ : ∃ Z, mapW [m0, m1, m2, m3] (k + 1) = Z := ⟨_, rfl⟩
      rw [hZ, hZ'] at HZ
      rw [hZ] at K
      have HE := Lib.hid hZ'
      clear hZ hZ'
      rcases (show k = 0 ∨ k = 1 ∨ k = 2 ∨ k = 3 by omega) with rfl | rfl | rfl | rfl
      case' inl => have HY : Hid (writeOf Z 65532 m0 = Z') := HZ
      case' inr.inl => have HY : Hid (writeOf Z 65533 m1 = Z') := HZ
      case' inr.inr.inl => have HY : Hid (writeOf Z 65534 m2 = Z') := HZ
      case' inr.inr.inr => have HY : Hid (writeOf Z 65535 m3 = Z') := HZ
      all_goals
        clear hlt hk HZ
        go_wp2_with (first
          | (go_at_call 20; refine (c_bwrite W1 b g d r gr ga gp Z Z rs _ K Z' _ _ (by omega) (by omega) (by omega) (by omega) HY).mono ?_; rintro e w8 ⟨rfl, K8, -⟩)
          | (go_at_call 21; refine (c_rwrite W1 b g d r gr ga gp Z' Z rs _ K8 Z' _ _ (by omega) (by omega) (by omega) (by omega) HY).mono ?_; rintro e w9 ⟨rfl, K9, -⟩))
        go_roundw
        case rel => first | exact ⟨1, by omega, rfl, by rw [HE.out]; exact K9⟩ | exact ⟨2, by omega, rfl, by rw [HE.out]; exact K9⟩ | exact ⟨3, by omega, rfl, by rw [HE.out]; exact K9⟩ | exact ⟨4, by omega, rfl, by rw [HE.out]; exact K9⟩
        case measure => simp [intOf]
    · obtain rfl : k = 4 := by omega
      obtain ⟨Z, hZ⟩ : ∃ Z, mapW [m0, m1, m2, m3] 4 = Z := ⟨_, rfl⟩
      rw [hZ] at K
      obtain ⟨v, hv⟩ : ∃ v, readOf rs M Z a = v := ⟨_, rfl⟩
      have HV := Lib.hid hv
      clear hlt hk hZ hv
      go_wp2_with (first
        | (go_at_call 18; refine (c_bread W1 b g d r gr ga gp Z Z rs M F _ (by assumption) a v a0 a1 HV).mono ?_; rintro e w8 ⟨rfl, K8, -⟩)
        | (go_at_call 19; refine (c_rread W1 b g d r gr ga gp Z Z rs M F _ (by assumption) a v a0 a1 HV).mono ?_; rintro e w8 ⟨rfl, K8, -⟩))
      go_ret
      exact ⟨rfl, below_next hw.out K8.out.bel⟩

theorem sees_any (banks a m0 m1 m2 m3 : Int) (a0 : 0 ≤ a) (a1 : a ≤ 65535) (b0 : 0 ≤ m0 ∧ m0 ≤ 255) (b1 : 0 ≤ m1 ∧ m1 ≤ 255) (b2 : 0 ≤ m2 ∧ m2 ≤ 255) (b3 : 0 ≤ m3 ∧ m3 ≤ 255) (w : World) :
    Calls Try.prog 5 #[.int .i64 banks, .agg #[.int .u8 m0, .int .u8 m1, .int .u8 m2, .int .u8 m3], .int .u16 a] w fun e w' => e = .returned (.bool true) ∧ Below w.heap.size w w' := by
  by_cases hh : banks < 0 ∨ 12 < banks
  · exact sees_out banks a m0 m1 m2 m3 hh w
  · obtain ⟨n, rfl⟩ := Int.eq_ofNat_of_zero_le (show 0 ≤ banks by omega)
    exact sees_in n (by omega) a m0 m1 m2 m3 a0 a1 b0 b1 b2 b3 w

end Go.Proofs.Ytlnoomganphbeaa
