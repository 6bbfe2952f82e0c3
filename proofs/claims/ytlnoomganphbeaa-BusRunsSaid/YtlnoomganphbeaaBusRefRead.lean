/-
  The document's own Read: what is read is what the program's bus reads.
-/
import Derived.Test.YtlnoomganphbeaaBusRef
namespace Go.Proofs.Ytlnoomganphbeaa
open Go.RowKit

theorem RefIn.next {w w' : World} {r gr ga gp : Nat} {zs rs : List Int} (h : RefIn w r gr ga gp zs rs) (hb : Below w.heap.size w w') : RefIn w' r gr ga gp zs rs := by
  obtain ⟨⟨ca, cp, hc⟩, h2, ⟨e1, h3⟩, ⟨e2, h4⟩, h5, h6, h7, h8, h9⟩ := h
  exact ⟨⟨ca, cp, hc.under hb hc.inside⟩, h2.under hb h2.inside, ⟨e1, h3.under hb h3.inside⟩, ⟨e2, h4.under hb h4.inside⟩, h5, h6, h7, h8, h9⟩
theorem RefIn.drewN {w : World} {r gr ga gp : Nat} {zs rs : List Int} (h : RefIn w r gr ga gp zs rs) (n : Nat) : Hid (RefIn (w.drewN n) r gr ga gp zs rs) := h.next (below_drewN w n)

theorem ramL_getD (zs : List Int) (i : Nat) (hi : i < 8192) : (ramL zs).getD i 0 = zs.getD i 0 := by
  unfold ramL
  rw [List.getD_eq_getElem?_getD, List.getD_eq_getElem?_getD, List.getElem?_take, if_pos hi]
theorem papL_getD (zs : List Int) (i : Nat) (hi : i < 32768) : (papL zs).getD i 0 = zs.getD (8192 + i) 0 := by
  unfold papL
  rw [List.getD_eq_getElem?_getD, List.getD_eq_getElem?_getD, List.getElem?_take, if_pos hi, List.getElem?_drop]

theorem papV_place {zs : List Int} {a : Int} (hp : 0 ≤ papV zs a) : placeOf zs a = some (8192 + (papV zs a).toNat) ∧ papV zs a < 32768 ∧ 32768 ≤ a ∧ a < 49152 := by
  unfold papV at hp ⊢
  unfold placeOf
  by_cases h : 32768 ≤ a ∧ a < 49152 ∧ zs.getD 40960 0 / 8 % 2 = 1
  · rw [if_pos h, if_neg (by omega), if_neg (by omega)]
    refine ⟨?_, by omega, h.1, h.2.1⟩
    congr 3
    split <;> omega
  · rw [if_neg h] at hp; omega
theorem papV_not {zs : List Int} {a : Int} (h1 : a < 49152) (hp : papV zs a < 0) : papV zs a = -1 ∧ placeOf zs a = none := by
  unfold papV at hp ⊢
  unfold placeOf
  by_cases h : 32768 ≤ a ∧ a < 49152 ∧ zs.getD 40960 0 / 8 % 2 = 1
  · rw [if_pos h] at hp; omega
  · rw [if_neg h, if_neg (by omega), if_pos (by omega)]
    exact ⟨rfl, rfl⟩

set_option maxRecDepth 100000 in
set_option maxHeartbeats 1600000 in
theorem rread_any (r gr ga gp : Nat) (zs rs : List Int) (M : Int) (hM : RomFit rs M) (a : Int) (h0 : 0 ≤ a) (h1 : a ≤ 65535) (w : World) (h : RefIn w r gr ga gp zs rs) :
    Calls Try.prog 19 #[.pointer (some ⟨r, 0, none⟩), .int .u16 a] w fun e w' => e = .returned (.int .u8 (readOf rs M zs a)) ∧ ∃ n, w' = w.drewN n := by
  have H := Lib.hid h
  have HD := Lib.hid (h.drewN)
  have HM := Lib.hid hM
  obtain ⟨ca, cp, hc⟩ := h.cells
  have c0 : w.cell? ⟨r, 0, none⟩ = some (.slice (some ⟨gr, 0, none⟩) rs.length rs.length) := hc.at_ 0
  have c1 : w.cell? ⟨r, 1, none⟩ = some (.slice (some ⟨ga, 0, none⟩) 8192 ca) := hc.at_ 1
  have c2 : w.cell? ⟨r, 2, none⟩ = some (.slice (some ⟨gp, 0, none⟩) 32768 cp) := hc.at_ 2
  have m1 : w.cell? ⟨r, 4, none⟩ = some (.int .u8 (zs.getD 40961 0)) := hc.at_ 4
  have m2 : w.cell? ⟨r, 5, none⟩ = some (.int .u8 (zs.getD 40962 0)) := hc.at_ 5
  have m3 : w.cell? ⟨r, 6, none⟩ = some (.int .u8 (zs.getD 40963 0)) := hc.at_ 6
  have b1 := h.oct.getD 40961
  have b2 := h.oct.getD 40962
  have b3 := h.oct.getD 40963
  obtain ⟨L, hL⟩ : ∃ L, L = rs.length := ⟨_, rfl⟩
  rw [← hL] at c0
  have HL := Lib.hid hL
  obtain ⟨v, hv⟩ : ∃ v, readOf rs M zs a = v := ⟨_, rfl⟩
  have HV := Lib.hid hv
  rw [hv]
  by_cases q1 : 49152 ≤ a
  · have hcell := h.ram.at_ (a % 8192).toNat (by unfold ramL; rw [List.length_take, h.len]; omega)
    rw [ramL_getD _ _ (by omega)] at hcell
    have HE : Hid (zs.getD (a % 8192).toNat 0 = v) := by show _ = _; rw [← hv, readOf, placeOf, if_pos q1]
    rw [HE.out] at hcell
    clear h hc hv hM hL b1 b2 b3 m1 m2 m3 c2 c0
    go_enter Try.func19, Try.ntmps19
    go_wp2_with fail
    go_ret
    exact ⟨rfl, 0, rfl⟩
  · obtain ⟨p, hp⟩ : ∃ p, papV zs a = p := ⟨_, rfl⟩
    have HP := Lib.hid hp
    by_cases q2 : 0 ≤ p
    · obtain ⟨e1, e2, e3, e4⟩ := papV_place (zs := zs) (by rw [hp]; exact q2)
      rw [hp] at e1 e2
      have hcell := h.pap.at_ p.toNat (by unfold papL; rw [List.length_take, List.length_drop, h.len]; omega)
      rw [papL_getD _ _ (by omega)] at hcell
      have HE : Hid (zs.getD (8192 + p.toNat) 0 = v) := by show _ = _; rw [← hv, readOf, e1]
      rw [HE.out] at hcell
      clear h hc hv hM hL b1 b2 b3 m1 m2 m3 c1 c0 hp e1
      go_enter Try.func19, Try.ntmps19
      go_wp2_with (go_at_call 29; refine (paper_any r gr ga gp zs rs a h0 h1 _ H.out p HP.out).mono ?_; rintro e w' ⟨rfl, rfl⟩)
      go_quiet ((go_at_call 29; exact Calls.quiet_of_same (paper_any r gr ga gp zs rs a h0 h1 _ (HD.out _).out p HP.out)))
      go_wp2_with fail
      go_ret
      exact ⟨rfl, _, rfl⟩
    · obtain ⟨e1, e2⟩ := papV_not (zs := zs) (a := a) (by omega) (by rw [hp]; omega)
      rw [hp] at e1
      subst e1
      have RV : ∀ x y : Int, (x % M * 16384 + y % 16384).toNat = (bankOf zs a % M * 16384 + a % 16384).toNat → Hid (rs.getD (x % M * 16384 + y % 16384).toNat 0 = v) := fun x y e => by
        show _ = _
        rw [e, ← hv, readOf, e2]
      by_cases q3 : 32768 ≤ a
      · have KV := RV (zs.getD 40963 0) (a - 32768) (by
          unfold bankOf
          rw [if_neg (by omega), show 40961 + (a / 16384).toNat = 40963 by omega, show (a - 32768) % 16384 = a % 16384 by omega])
        generalize zs.getD 40963 0 = x3 at *
        obtain ⟨b30, b31⟩ := b3
        clear h hc hv hM hL b1 b2 m1 m2 c1 c2 hp e2 RV
        go_enter Try.func19, Try.ntmps19
        go_wp2_with (go_at_call 29; refine (paper_any r gr ga gp zs rs a h0 h1 _ H.out _ HP.out).mono ?_; rintro e w' ⟨rfl, rfl⟩)
        go_quiet ((go_at_call 30; exact Calls.quiet_of_same (rat_any gr L rs M HM.out _ (HD.out _).out.rom L HL.out _ _ v KV.out)))
        go_wp2_with fail
        go_ret
        exact ⟨rfl, _, rfl⟩
      · by_cases q4 : 16384 ≤ a
        · have KV := RV (zs.getD 40962 0) (a - 16384) (by
            unfold bankOf
            rw [if_neg (by omega), show 40961 + (a / 16384).toNat = 40962 by omega, show (a - 16384) % 16384 = a % 16384 by omega])
          generalize zs.getD 40962 0 = x2 at *
          obtain ⟨b20, b21⟩ := b2
          clear h hc hv hM hL b1 b3 m1 m3 c1 c2 hp e2 RV
          go_enter Try.func19, Try.ntmps19
          go_wp2_with (go_at_call 29; refine (paper_any r gr ga gp zs rs a h0 h1 _ H.out _ HP.out).mono ?_; rintro e w' ⟨rfl, rfl⟩)
          go_quiet ((go_at_call 30; exact Calls.quiet_of_same (rat_any gr L rs M HM.out _ (HD.out _).out.rom L HL.out _ _ v KV.out)))
          go_wp2_with fail
          go_ret
          exact ⟨rfl, _, rfl⟩
        · by_cases q5 : 1024 ≤ a
          · have KV := RV (zs.getD 40961 0) a (by
              unfold bankOf
              rw [if_neg (by omega), show 40961 + (a / 16384).toNat = 40961 by omega])
            generalize zs.getD 40961 0 = x1 at *
            obtain ⟨b10, b11⟩ := b1
            clear h hc hv hM hL b2 b3 m2 m3 c1 c2 hp e2 RV
            go_enter Try.func19, Try.ntmps19
            go_wp2_with (go_at_call 29; refine (paper_any r gr ga gp zs rs a h0 h1 _ H.out _ HP.out).mono ?_; rintro e w' ⟨rfl, rfl⟩)
            go_quiet ((go_at_call 30; exact Calls.quiet_of_same (rat_any gr L rs M HM.out _ (HD.out _).out.rom L HL.out _ _ v KV.out)))
            go_wp2_with fail
            go_ret
            exact ⟨rfl, _, rfl⟩
          · have KV := RV 0 a (by
              unfold bankOf
              rw [if_pos (by omega)])
            clear h hc hv hM hL b1 b2 b3 m1 m2 m3 c1 c2 hp e2 RV
            go_enter Try.func19, Try.ntmps19
            go_wp2_with (first
              | (go_at_call 29; refine (paper_any r gr ga gp zs rs a h0 h1 _ H.out _ HP.out).mono ?_; rintro e w' ⟨rfl, rfl⟩)
              | (go_at_call 30; refine (rat_any gr L rs M HM.out _ H.out.rom L HL.out _ _ v KV.out).mono ?_; rintro e w' ⟨rfl, rfl⟩))
            go_ret
            exact ⟨rfl, 0, rfl⟩

end Go.Proofs.Ytlnoomganphbeaa
