/-
  The law BusRuns returns true for every number of banks and all acts, and writes nothing that was there.
-/
import Derived.Test.YtlnoomganphbeaaBusRun
namespace Go.Proofs.Ytlnoomganphbeaa
open Go.RowKit

/-- the acts that came in: what lies in memory below block B -/
def ActsIn (w : World) (B : Nat) (a : Option Addr) (n : Nat) (ac : Nat → Int × Int × Int) : Prop :=
  0 < n → ∃ g o, a = some ⟨g, o, none⟩ ∧ g < B ∧ ∀ i, i < n → w.cell? ⟨g, o + i * 3, none⟩ = some (.int .i64 (ac i).1) ∧ w.cell? ⟨g, o + i * 3 + 1, none⟩ = some (.int .u16 (ac i).2.1) ∧ w.cell? ⟨g, o + i * 3 + 2, none⟩ = some (.int .u8 (ac i).2.2) ∧
    (0 ≤ (ac i).2.1 ∧ (ac i).2.1 ≤ 65535) ∧ (0 ≤ (ac i).2.2 ∧ (ac i).2.2 ≤ 255)

set_option maxRecDepth 100000 in
set_option maxHeartbeats 1600000 in
theorem runs_out (banks : Int) (a : Option Addr) (n cap : Nat) (hh : (banks < 0 ∨ 12 < banks) ∨ 200 < n) (w : World) :
    Calls Try.prog 4 #[.int .i64 banks, .slice a n cap] w fun e w' => e = .returned (.bool true) ∧ Below w.heap.size w w' := by
  have hn : (200 : Int) < (n : Int) ∨ ¬ (200 : Int) < (n : Int) := by omega
  by_cases h1 : banks < 0
  case' neg =>
    by_cases h2 : 12 < banks
    case' neg => have h3 : (200 : Int) < (n : Int) := by omega
  all_goals
    clear hh hn
    go_enter Try.func4, Try.ntmps4
    go_wp2_with (go_at_call 11; refine (alive_any _).mono ?_; rintro e w0 ⟨rfl, H0⟩)
    go_ret
    exact ⟨rfl, H0.out⟩

theorem run_made {W0 w7 w8 : World} {b g d r gr ga gp k cap : Nat} {rs : List Int} (h : Core W0 w7 b g d r gr ga gp bus0 bus0 rs) (hk : w7.heap.size ≤ k) (hb : Below w7.heap.size w7 w8) (hp : Pre w8 k bus0) (hc : 40964 ≤ cap) : Run W0 w8 b g r bus0 bus0 rs k cap bus0 :=
  ⟨d, gr, ga, gp, h.next hb, hp, bus0_length, bus0_oct, hc, by have := h.ref.ram.inside; omega, by have := h.ref.pap.inside; omega⟩

theorem made40964 (w : World) : (Instr.makeSlice 29 (.int .i64 40964) (.int .i64 40964)).run Try.prog w = .ok (.slice (some ⟨w.heap.size, 0, none⟩) 40964 40964) (w.alloc (.cells (u8s (zeros 40964)).toArray 5)) := bytes_made 40964 (by omega) w
theorem pre_fresh2 (w : World) (o : Obj) (zs : List Int) : Pre ((w.alloc o).alloc (.cells (u8s zs).toArray 5)) (w.heap.size + 1) zs := by
  have h := Whole.fresh (w.alloc o) 5 (u8s zs)
  rw [World.size_alloc] at h
  exact ⟨[], by rw [List.append_nil]; exact h⟩

set_option maxRecDepth 100000 in
set_option maxHeartbeats 6400000 in
theorem runs_in (nb : Nat) (hnb : nb ≤ 12) (a : Option Addr) (n cap : Nat) (hn : n ≤ 200) (ac : Nat → Int × Int × Int) (w : World) (ha : ActsIn w w.heap.size a n ac) :
    Calls Try.prog 4 #[.int .i64 nb, .slice a n cap] w fun e w' => e = .returned (.bool true) ∧ Below w.heap.size w w' := by
  have F : Hid (RomFit (imgRom nb) (bkI nb)) := fit_img nb hnb
  obtain ⟨rs, hrs⟩ : ∃ rs, imgRom nb = rs := ⟨_, rfl⟩
  obtain ⟨M, hM⟩ : ∃ M, bkI nb = M := ⟨_, rfl⟩
  have HRS := Lib.hid hrs
  rw [hrs, hM] at F
  have HA := Lib.hid ha
  clear hM hrs ha
  go_enter Try.func4, Try.ntmps4
  go_wp2_with (first
    | (go_at_call 11; refine (alive_any _).mono ?_; rintro e w0 ⟨rfl, H0⟩)
    | (go_at_call 14; refine (image_open w nb hnb _ H0.out).mono ?_; rintro e w1 ⟨a1', L1, rfl, H1, -⟩; clear H0)
    | (go_at_call 10; refine (rom_img w _ _ nb hnb _ (by assumption)).mono ?_; rw [HRS.out]; rintro e w2 ⟨g, rfl, H2, -⟩)
    | (go_at_call 9; refine (bus_cart w g _ _ (by assumption)).mono ?_; rintro e w3 ⟨b, rfl, H3, -⟩)
    | (go_at_call 14; refine (image_open w nb hnb _ H3.out.2.2.1).mono ?_; rintro e w4 ⟨a4, L4, rfl, H4, B4⟩)
    | (go_at_call 16; refine (rnew_img w _ _ nb hnb _ H4).mono ?_; rw [HRS.out]; rintro e w5 ⟨gr, R, rfl, HR, H5, B5⟩)
    | (go_at_call 15; refine (rbnew_any gr rs R HR _ H5).mono ?_; rintro e w7 ⟨r, ga, gp, rfl, H7, n1, n2, n3, B7⟩; obtain ⟨d, KC⟩ := core_made H3.out (below_next B4.out B5.out) H7 n1 n2 n3 B7; have K := Lib.hid KC; clear KC H1 H2 H3 H4 H5 H7 B4 B5 B7 HR n1 n2 n3)
    | (go_at_call 17; refine (rdump_any r gr ga gp bus0 rs _ K.out.ref).mono ?_; rintro e w8 ⟨k0, cap0, rfl, hc0, hk0, hb8, hp8⟩; have RN := Lib.hid (run_made K.out hk0 hb8 hp8 hc0); clear K hc0 hk0 hb8 hp8))
  go_loopw [36, 7, 9, 10] (fun i kv _ _ wr => ∃ (k kd kcap : Nat) (zs ks : List Int), k ≤ n ∧ i = .int .i64 k ∧ kv = .slice (some ⟨kd, 0, none⟩) 40964 kcap ∧ Hid (Run w wr b g r zs zs rs kd kcap ks)) (fun i _ _ _ _ => n - (intOf i).toNat)
  case atStart => exact ⟨0, k0, cap0, bus0, bus0, by omega, rfl, rfl, RN⟩
  case round =>
    clear RN
    obtain ⟨k, kd, kcap, zs, ks, hk, rfl, rfl, RN⟩ := hrel
    by_cases hlt : k < n
    · obtain ⟨ga, oa, rfl, hga, hcells⟩ := HA.out (by omega)
      obtain ⟨x0, x1, x2, ⟨q0, q1⟩, q2, q3⟩ := hcells k hlt
      have BW := RN.out.bel
      have y0 := (BW.cell (p := ⟨ga, oa + k * 3, none⟩) hga).trans x0
      have y1 := (BW.cell (p := ⟨ga, oa + k * 3 + 1, none⟩) hga).trans x1
      have y2 := (BW.cell (p := ⟨ga, oa + k * 3 + 2, none⟩) hga).trans x2
      generalize (ac k).1 = kind at y0
      generalize (ac k).2.1 = A at y1 q0 q1
      generalize (ac k).2.2 = V at y2 q2 q3
      have HLT := Lib.hid hlt
      have hlt' : (k : Int) < (n : Int) := by omega
      have RA : Hid (RunA w (wr.alloc (.cells #[.int .i64 kind, .int .u16 A, .int .u8 V] 40)) b g r zs zs rs kd kcap ks wr.heap.size [.int .i64 kind, .int .u16 A, .int .u8 V]) := ⟨RN.out.next ((Below.refl _ _).alloc (Nat.le_refl _) _), Whole.fresh wr _ _⟩
      clear x0 x1 x2 BW hcells hlt RN
      obtain ⟨v, hv⟩ : ∃ v, readOf rs M zs A = v := ⟨_, rfl⟩
      have HV := Lib.hid hv
      clear hv
      by_cases k0 : kind = 0
      · subst k0
        go_wp2_with fail
        obtain ⟨WA, hWA⟩ : ∃ WA, WA = wr.alloc (.cells #[.int .i64 0, .int .u16 A, .int .u8 V] 40) := ⟨_, rfl⟩
        rw [← hWA] at RA ⊢
        clear hWA y0 y1 y2
        have e1 : WA.cell? ⟨wr.heap.size, 1, none⟩ = some (.int .u16 A) := RA.out.2.at_ 1
        have RD := RA.out.drewN
        go_quiet ((first
          | (go_at_call 18; exact Calls.quiet_of (ra_bread w b g r zs zs rs kd kcap ks _ _ _ (RD _) M F A v q0 q1 HV))
          | (go_at_call 19; exact Calls.quiet_of (ra_rread w b g r zs zs rs kd kcap ks _ _ _ (RD _) M F A v q0 q1 HV))))
        go_wp2_with fail
        have RZ := RD nq
        obtain ⟨WZ, hWZ⟩ : ∃ W, W = WA.drewN nq := ⟨_, rfl⟩
        rw [← hWZ] at RZ ⊢
        obtain ⟨z0, z1, z2, z3, MZ⟩ := map_named (zs)
        have MV := MapIs.val MZ
        have E4 := same4_run z0 z1 z2 z3
        have RW : Hid (RunA w _ b g r (zs) (zs) rs kd kcap ks _ _) := RZ.out.next ((Below.refl _ _).drew)
        obtain ⟨f3, f4, f5, f6⟩ := RunA.mapsZ RZ MZ
        clear RD e1 RA hWZ
        go_region_with (go_at_call 23; refine (ra_mapper w b g r _ _ rs kd kcap ks _ _ _ RW _ MV).mono ?_; rintro e w9 ⟨rfl, R9⟩; obtain ⟨g3, g4, g5, g6⟩ := RunA.mapsZ R9 MZ)
        all_goals
          clear f3 f4 f5 f6 g3 g4 g5 g6 E4
          go_wp2_with fail
          go_roundw
          case rel => exact ⟨k + 1, kd, kcap, zs, ks, by have := HLT.out; omega, by go_num, rfl, R9.out.1⟩
          case measure => simp [intOf]; omega
      · by_cases k1 : kind = 1
        · subst k1
          go_wp2_with (first
            | (go_at_call 20; refine (ra_bwrite w b g r zs zs rs kd kcap ks _ _ _ RA A V q0 q1 q2 q3).mono ?_; rintro e w8 ⟨rfl, R8⟩; have e1 : w8.cell? ⟨wr.heap.size, 1, none⟩ = some (.int .u16 A) := R8.out.2.at_ 1; have e2 : w8.cell? ⟨wr.heap.size, 2, none⟩ = some (.int .u8 V) := R8.out.2.at_ 2)
            | (go_at_call 21; refine (ra_rwrite w b g r (writeOf zs A V) zs rs kd kcap ks _ _ _ R8 A V q0 q1 q2 q3).mono ?_; rintro e w8' ⟨rfl, RZ⟩; clear e1 e2 R8))
          clear y0 y1 y2
          obtain ⟨z0, z1, z2, z3, MZ⟩ := map_named (writeOf zs A V)
          have MV := MapIs.val MZ
          have E4 := same4_run z0 z1 z2 z3
          have RW : Hid (RunA w _ b g r (writeOf zs A V) (writeOf zs A V) rs kd kcap ks _ _) := RZ.out.next ((Below.refl _ _).drew)
          obtain ⟨f3, f4, f5, f6⟩ := RunA.mapsZ RZ MZ
          clear RA
          go_region_with (go_at_call 23; refine (ra_mapper w b g r _ _ rs kd kcap ks _ _ _ RW _ MV).mono ?_; rintro e w9 ⟨rfl, R9⟩; obtain ⟨g3, g4, g5, g6⟩ := RunA.mapsZ R9 MZ)
          all_goals
            clear f3 f4 f5 f6 g3 g4 g5 g6 E4
            go_wp2_with fail
            go_roundw
            case rel => exact ⟨k + 1, kd, kcap, writeOf zs A V, ks, by have := HLT.out; omega, by go_num, rfl, R9.out.1⟩
            case measure => simp [intOf]; omega
        · by_cases k2 : kind = 2
          · subst k2
            obtain ⟨KP, KL, KO, KC⟩ := RunA.kept RA
            go_wp2_with (first
              | (go_at_call 12; refine (ra_bload w b g r zs zs rs kd kcap ks _ _ _ RA kd kcap ks KP KL KO KC).mono ?_; rintro e w8 ⟨rfl, R8, P8⟩)
              | (go_at_call 22; refine (ra_rload w b g r ks zs rs kd kcap ks _ _ _ R8 kd kcap ks P8 KL KO KC).mono ?_; rintro e w8' ⟨rfl, RY⟩; clear R8 P8)
              | (go_at_call 13; refine (ra_bdump w b g r ks ks rs kd kcap ks _ _ _ RY).mono ?_; rintro e w8'' ⟨kn, rfl, RZ, -⟩; clear RY))
            clear y0 y1 y2 KP
            obtain ⟨z0, z1, z2, z3, MZ⟩ := map_named (ks)
            have MV := MapIs.val MZ
            have E4 := same4_run z0 z1 z2 z3
            have RW : Hid (RunA w _ b g r (ks) (ks) rs kn 40964 ks _ _) := RZ.out.next ((Below.refl _ _).drew)
            obtain ⟨f3, f4, f5, f6⟩ := RunA.mapsZ RZ MZ
            clear RA
            go_region_with (go_at_call 23; refine (ra_mapper w b g r _ _ rs kn 40964 ks _ _ _ RW _ MV).mono ?_; rintro e w9 ⟨rfl, R9⟩; obtain ⟨g3, g4, g5, g6⟩ := RunA.mapsZ R9 MZ)
            all_goals
              clear f3 f4 f5 f6 g3 g4 g5 g6 E4
              go_wp2_with fail
              go_roundw
              case rel => exact ⟨k + 1, kn, 40964, ks, ks, by have := HLT.out; omega, by go_num, rfl, R9.out.1⟩
              case measure => simp [intOf]; omega
          · by_cases k3 : kind = 3
            · subst k3
              by_cases h9 : V % 9 = 4
              · have hmk := made40964
                have KP : Hid (Pre ((wr.alloc (.cells #[.int .i64 3, .int .u16 A, .int .u8 V] 40)).alloc (.cells (u8s (zeros 40964)).toArray 5)) (wr.heap.size + 1) (zeros 40964)) := pre_fresh2 wr _ _
                have RB : Hid (RunA w ((wr.alloc (.cells #[.int .i64 3, .int .u16 A, .int .u8 V] 40)).alloc (.cells (u8s (zeros 40964)).toArray 5)) b g r zs zs rs kd kcap ks _ _) := RA.out.next ((Below.refl _ _).alloc (Nat.le_refl _) _)
                have KL : Hid ((zeros 40964).length = 40964) := zeros_length _
                have KO : Hid (Oct (zeros 40964)) := Oct.zeros _
                have KC : Hid (40964 ≤ 40964) := Nat.le_refl _
                generalize zeros 40964 = Z0 at hmk KP RB KL KO
                go_wp2_with (first
                  | (go_at_call 12; refine (ra_bload w b g r zs zs rs kd kcap ks _ _ _ RB _ 40964 (Z0) KP KL KO KC).mono ?_; rintro e w8 ⟨rfl, R8, P8⟩)
                  | (go_at_call 22; refine (ra_rload w b g r (Z0) zs rs kd kcap ks _ _ _ R8 _ 40964 (Z0) P8 KL KO KC).mono ?_; rintro e w8' ⟨rfl, RZ⟩; clear R8 P8))
                clear y0 y1 y2 KP hmk
                obtain ⟨z0, z1, z2, z3, MZ⟩ := map_named (Z0)
                have MV := MapIs.val MZ
                have E4 := same4_run z0 z1 z2 z3
                have RW : Hid (RunA w _ b g r (Z0) (Z0) rs kd kcap ks _ _) := RZ.out.next ((Below.refl _ _).drew)
                obtain ⟨f3, f4, f5, f6⟩ := RunA.mapsZ RZ MZ
                clear RA RB
                go_region_with (go_at_call 23; refine (ra_mapper w b g r _ _ rs kd kcap ks _ _ _ RW _ MV).mono ?_; rintro e w9 ⟨rfl, R9⟩; obtain ⟨g3, g4, g5, g6⟩ := RunA.mapsZ R9 MZ)
                all_goals
                  clear f3 f4 f5 f6 g3 g4 g5 g6 E4
                  go_wp2_with fail
                  go_roundw
                  case rel => exact ⟨k + 1, kd, kcap, Z0, ks, by have := HLT.out; omega, by go_num, rfl, R9.out.1⟩
                  case measure => simp [intOf]; omega
              · obtain ⟨m, hm⟩ := Int.eq_ofNat_of_zero_le (show 0 ≤ 40960 + V % 9 by omega)
                have hne : ¬ (m : Int) = 40964 := by omega
                have hmk := bytes_made m (by omega)
                have RZ : Hid (RunA w ((wr.alloc (.cells #[.int .i64 3, .int .u16 A, .int .u8 V] 40)).alloc (.cells (u8s (zeros m)).toArray 5)) b g r zs zs rs kd kcap ks _ _) := RA.out.next ((Below.refl _ _).alloc (Nat.le_refl _) _)
                clear h9
                go_wp2_with (first
                  | (go_at_call 12; refine (load_bad b _ m m hne _).mono ?_; rintro e w' ⟨rfl, rfl⟩)
                  | (go_at_call 22; refine (rload_bad r _ m m hne _).mono ?_; rintro e w' ⟨rfl, rfl⟩))
                obtain ⟨WZ, hWZ⟩ : ∃ W, W = (wr.alloc (.cells #[.int .i64 3, .int .u16 A, .int .u8 V] 40)).alloc (.cells (u8s (zeros m)).toArray 5) := ⟨_, rfl⟩
                rw [← hWZ] at RZ ⊢
                clear y0 y1 y2 hmk hm
                obtain ⟨z0, z1, z2, z3, MZ⟩ := map_named (zs)
                have MV := MapIs.val MZ
                have E4 := same4_run z0 z1 z2 z3
                have RW : Hid (RunA w _ b g r (zs) (zs) rs kd kcap ks _ _) := RZ.out.next ((Below.refl _ _).drew)
                obtain ⟨f3, f4, f5, f6⟩ := RunA.mapsZ RZ MZ
                clear RA hWZ
                go_region_with (go_at_call 23; refine (ra_mapper w b g r _ _ rs kd kcap ks _ _ _ RW _ MV).mono ?_; rintro e w9 ⟨rfl, R9⟩; obtain ⟨g3, g4, g5, g6⟩ := RunA.mapsZ R9 MZ)
                all_goals
                  clear f3 f4 f5 f6 g3 g4 g5 g6 E4
                  go_wp2_with fail
                  go_roundw
                  case rel => exact ⟨k + 1, kd, kcap, zs, ks, by have := HLT.out; omega, by go_num, rfl, R9.out.1⟩
                  case measure => simp [intOf]; omega
            · go_wp2_with fail
              obtain ⟨WZ, hWZ⟩ : ∃ W, W = wr.alloc (.cells #[.int .i64 kind, .int .u16 A, .int .u8 V] 40) := ⟨_, rfl⟩
              rw [← hWZ] at RA ⊢
              clear y0 y1 y2 k0 k1 k2 k3
              obtain ⟨z0, z1, z2, z3, MZ⟩ := map_named (zs)
              have MV := MapIs.val MZ
              have E4 := same4_run z0 z1 z2 z3
              have RW : Hid (RunA w _ b g r (zs) (zs) rs kd kcap ks _ _) := RA.out.next ((Below.refl _ _).drew)
              obtain ⟨f3, f4, f5, f6⟩ := RunA.mapsZ RA MZ
              clear hWZ
              go_region_with (go_at_call 23; refine (ra_mapper w b g r _ _ rs kd kcap ks _ _ _ RW _ MV).mono ?_; rintro e w9 ⟨rfl, R9⟩; obtain ⟨g3, g4, g5, g6⟩ := RunA.mapsZ R9 MZ)
              all_goals
                clear f3 f4 f5 f6 g3 g4 g5 g6 E4
                go_wp2_with fail
                go_roundw
                case rel => exact ⟨k + 1, kd, kcap, zs, ks, by have := HLT.out; omega, by go_num, rfl, R9.out.1⟩
                case measure => simp [intOf]; omega
    · obtain rfl : k = n := by omega
      have RI : Hid (Run w wr.drew b g r zs zs rs kd kcap ks) := RN.out.next ((Below.refl _ _).drew)
      clear hlt hk
      go_wp2_with fail
      go_region_with (first
        | (go_at_call 13; refine (run_bdump w b g r zs rs kd kcap ks _ RI).mono ?_; rintro e w8 ⟨kb, rfl, RD, TD, -⟩; have cv1 := Told.here TD)
        | (go_at_call 17; refine (run_rdump w b g r zs rs kd kcap ks _ RD).mono ?_; rintro e w9 ⟨kr, cr, rfl, RE, TE, BE⟩; have cv2 := Told.later TD BE; have cv3 := Told.here TE)
        | (go_at_call 17; refine (run_rdump w b g r zs rs kd kcap ks _ RI).mono ?_; rintro e w8 ⟨kr, cr, rfl, RJ, TJ, -⟩; have cv1 := Told.here TJ)
        | (go_at_call 13; refine (run_bdump w b g r zs rs kd kcap ks _ RJ).mono ?_; rintro e w9 ⟨kb, rfl, RE, TE, BE⟩; have cv2 := Told.later TJ BE; have cv3 := Told.here TE))
      all_goals
        clear cv1 cv2 cv3
        go_wp2_with fail
        go_ret
        exact ⟨rfl, RE.out.bel⟩

end Go.Proofs.Ytlnoomganphbeaa
