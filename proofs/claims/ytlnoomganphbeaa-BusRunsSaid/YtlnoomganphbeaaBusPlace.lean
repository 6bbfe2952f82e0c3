/-
  Package bus's place, bank and Mapper: where an address is, which bank is seen there, the mapper's bytes.
-/
import Derived.Test.YtlnoomganphbeaaBusNew
import Derived.BigQuiet
import Derived.Deep.QuietTactic
namespace Go.Proofs.Ytlnoomganphbeaa
open Go.RowKit

theorem and8 (m : Int) (h0 : 0 ≤ m) (h1 : m ≤ 255) : bits .and .u8 m 8 = m / 8 % 2 * 8 := by
  obtain ⟨n, rfl⟩ := Int.eq_ofNat_of_zero_le h0
  have h : ∀ n : Fin 256, bits .and .u8 ((n.val : Nat) : Int) 8 = (n.val : Int) / 8 % 2 * 8 := by decide +kernel
  exact h ⟨n, by omega⟩
theorem and4 (m : Int) (h0 : 0 ≤ m) (h1 : m ≤ 255) : bits .and .u8 m 4 = m / 4 % 2 * 4 := by
  obtain ⟨n, rfl⟩ := Int.eq_ofNat_of_zero_le h0
  have h : ∀ n : Fin 256, bits .and .u8 ((n.val : Nat) : Int) 4 = (n.val : Int) / 4 % 2 * 4 := by decide +kernel
  exact h ⟨n, by omega⟩

/-- where an address is among what may change: none is the cartridge -/
def placeOf (zs : List Int) (a : Int) : Option Nat :=
  if 49152 ≤ a then some (a % 8192).toNat
  else if a < 32768 ∨ zs.getD 40960 0 / 8 % 2 = 0 then none
  else some (8192 + (a % 16384 + if zs.getD 40960 0 / 4 % 2 = 0 then 0 else 16384).toNat)
theorem placeOf_lt {zs : List Int} {a : Int} {i : Nat} (h : placeOf zs a = some i) : i < 40960 := by
  unfold placeOf at h
  split at h
  · injection h with h; omega
  · split at h
    · cases h
    · injection h with h; split at h <;> omega
def placeV (zs : List Int) (a : Int) (b : Nat) : Option Addr := (placeOf zs a).map fun i => ⟨b, 1 + i, none⟩

theorem BusAt.rom {w : World} {b g : Nat} {zs : List Int} (h : BusAt w b g zs) : w.cell? ⟨b, 0, none⟩ = some (.pointer (some ⟨g, 0, none⟩)) := by
  rw [h.1.at_ 0]; rfl
theorem BusAt.byte {w : World} {b g : Nat} {zs : List Int} (h : BusAt w b g zs) (i : Nat) (hi : i < 40964) : w.cell? ⟨b, 1 + i, none⟩ = some (.int .u8 (zs.getD i 0)) := by
  rw [h.1.at_ (1 + i), Nat.add_comm 1 i, List.getElem?_cons_succ, u8s_get, List.getElem?_eq_getElem (by rw [h.2.1]; exact hi)]
  simp [List.getD_eq_getElem?_getD, h.2.1, hi]
theorem BusAt.free {w : World} {b g : Nat} {zs : List Int} (h : BusAt w b g zs) (i : Nat) : w.frozen? ⟨b, i, none⟩ = false := h.1.free i

theorem ret_ptr {b i j : Nat} (h : i = j) : Ending.returned (.pointer (some ⟨b, i, none⟩)) = Ending.returned (.pointer (some ⟨b, j, none⟩)) := by rw [h]

set_option maxRecDepth 100000 in
set_option maxHeartbeats 800000 in
theorem place_any (b g : Nat) (zs : List Int) (a : Int) (h0 : 0 ≤ a) (h1 : a ≤ 65535) (w : World) (h : BusAt w b g zs) :
    Calls Try.prog 27 #[.pointer (some ⟨b, 0, none⟩), .int .u16 a] w fun e w' => e = .returned (.pointer (placeV zs a b)) ∧ w = w' := by
  have hm : w.cell? ⟨b, 40961, none⟩ = some (.int .u8 (zs.getD 40960 0)) := h.byte 40960 (by omega)
  have hmb := h.2.2.getD 40960
  have HP : Hid (placeV zs a b = (if 49152 ≤ a then some (a % 8192).toNat
    else if a < 32768 ∨ zs.getD 40960 0 / 8 % 2 = 0 then none
    else some (8192 + (a % 16384 + if zs.getD 40960 0 / 4 % 2 = 0 then 0 else 16384).toNat)).map fun i => ⟨b, 1 + i, none⟩) := rfl
  generalize zs.getD 40960 0 = m at *
  obtain ⟨hm0, hm1⟩ := hmb
  have e8 := and8 m hm0 hm1
  have e4 := and4 m hm0 hm1
  clear h
  have hq8 : m / 8 % 2 = 0 ∨ m / 8 % 2 = 1 := by omega
  have hq4 : m / 4 % 2 = 0 ∨ m / 4 % 2 = 1 := by omega
  by_cases hc : 49152 ≤ a
  · clear e8 e4 hq8 hq4 hm hm0 hm1
    go_enter Try.func27, Try.ntmps27
    go_wp2
    go_ret
    exact ⟨by rw [HP.out, if_pos hc]; rfl, rfl⟩
  · have hc' : a < 49152 := by omega
    by_cases hl : a < 32768
    · have HQ : Hid (placeV zs a b = none) := by show _ = _; rw [HP.out, if_neg hc, if_pos (.inl hl)]; rfl
      clear e8 e4 hq8 hq4 hm hm0 hm1 HP hc
      go_enter Try.func27, Try.ntmps27
      go_wp2
      go_ret
      exact ⟨by rw [HQ.out]; exact rfl, rfl⟩
    · rcases hq8 with hq | hq
      · have HQ : Hid (placeV zs a b = none) := by show _ = _; rw [HP.out, if_neg hc, if_pos (.inr hq)]; rfl
        rw [hq] at e8
        clear e4 hq4 hm0 hm1 HP hc hq
        go_enter Try.func27, Try.ntmps27
        go_wp2
        go_ret
        exact ⟨by rw [HQ.out]; exact rfl, rfl⟩
      · have hnn : ¬ (a < 32768 ∨ m / 8 % 2 = 0) := by omega
        rw [hq] at e8
        rcases hq4 with hq4 | hq4
        · have HQ : Hid (placeV zs a b = some ⟨b, 1 + (8192 + (a % 16384).toNat), none⟩) := by show _ = _; rw [HP.out, if_neg hc, if_neg hnn, if_pos hq4, Int.add_zero]; rfl
          rw [hq4] at e4
          clear hm0 hm1 HP hc hq hq4 hnn
          go_enter Try.func27, Try.ntmps27
          go_wp2
          go_ret
          exact ⟨by rw [HQ.out]; exact ret_ptr (by omega), rfl⟩
        · have hn4 : ¬ m / 4 % 2 = 0 := by omega
          have HQ : Hid (placeV zs a b = some ⟨b, 1 + (8192 + (a % 16384 + 16384).toNat), none⟩) := by show _ = _; rw [HP.out, if_neg hc, if_neg hnn, if_neg hn4]; rfl
          rw [hq4] at e4
          clear hm0 hm1 HP hc hq hq4 hnn hn4
          go_enter Try.func27, Try.ntmps27
          go_wp2
          go_ret
          exact ⟨by rw [HQ.out]; exact ret_ptr (by omega), rfl⟩

/-- which bank is seen at an address below the RAM -/
def bankOf (zs : List Int) (a : Int) : Int := if a < 1024 then 0 else zs.getD (40961 + (a / 16384).toNat) 0

set_option maxRecDepth 100000 in
set_option maxHeartbeats 800000 in
theorem bank_any (b g : Nat) (zs : List Int) (a : Int) (h0 : 0 ≤ a) (h1 : a < 49152) (w : World) (h : BusAt w b g zs) :
    Calls Try.prog 28 #[.pointer (some ⟨b, 0, none⟩), .int .u16 a] w fun e w' => e = .returned (.int .i64 (bankOf zs a)) ∧ w = w' := by
  by_cases hl : a < 1024
  · have HQ : Hid (bankOf zs a = 0) := by show _ = _; rw [bankOf, if_pos hl]
    go_enter Try.func28, Try.ntmps28
    go_wp2
    go_ret
    exact ⟨by rw [HQ.out]; rfl, rfl⟩
  · have hq : IntKind.u16.wrap (a.tdiv 16384) = a / 16384 := by
      rw [Int.tdiv_eq_ediv_of_nonneg h0, IntKind.wrap_u16]; omega
    have HQ : Hid (bankOf zs a = zs.getD (40961 + (a / 16384).toNat) 0) := by show _ = _; rw [bankOf, if_neg hl]
    obtain ⟨q, hqq⟩ : ∃ q, q = a / 16384 := ⟨_, rfl⟩
    have hq0 : 0 ≤ q := by omega
    have hq1 : q ≤ 2 := by omega
    rw [← hqq] at hq HQ
    have hm : w.cell? ⟨b, 40961 + (1 + q).toNat, none⟩ = some (.int .u8 (zs.getD (40961 + q.toNat) 0)) := by
      have := h.byte (40961 + q.toNat) (by omega)
      rwa [show 1 + (40961 + q.toNat) = 40961 + (1 + q).toNat by omega] at this
    have hmb := h.2.2.getD (40961 + q.toNat)
    generalize zs.getD (40961 + q.toNat) 0 = m at *
    obtain ⟨hm0, hm1⟩ := hmb
    clear h hqq
    go_enter Try.func28, Try.ntmps28
    go_wp2
    go_ret
    exact ⟨by rw [HQ.out]; rfl, rfl⟩

def mapV (zs : List Int) : Value := .agg #[.int .u8 (zs.getD 40960 0), .int .u8 (zs.getD 40961 0), .int .u8 (zs.getD 40962 0), .int .u8 (zs.getD 40963 0)]

set_option maxRecDepth 100000 in
set_option maxHeartbeats 800000 in
theorem mapper_any (b g : Nat) (zs : List Int) (w : World) (h : BusAt w b g zs) :
    Calls Try.prog 23 #[.pointer (some ⟨b, 0, none⟩)] w fun e w' => e = .returned (mapV zs) ∧ Below w.heap.size w w' := by
  have c0 : w.cell? ⟨b, 40961, none⟩ = some (.int .u8 (zs.getD 40960 0)) := h.byte 40960 (by omega)
  have c1 : w.cell? ⟨b, 40962, none⟩ = some (.int .u8 (zs.getD 40961 0)) := h.byte 40961 (by omega)
  have c2 : w.cell? ⟨b, 40963, none⟩ = some (.int .u8 (zs.getD 40962 0)) := h.byte 40962 (by omega)
  have c3 : w.cell? ⟨b, 40964, none⟩ = some (.int .u8 (zs.getD 40963 0)) := h.byte 40963 (by omega)
  have hb : b < w.heap.size := h.1.inside
  have HQ : Hid (mapV zs = .agg #[.int .u8 (zs.getD 40960 0), .int .u8 (zs.getD 40961 0), .int .u8 (zs.getD 40962 0), .int .u8 (zs.getD 40963 0)]) := rfl
  generalize zs.getD 40960 0 = m0 at *
  generalize zs.getD 40961 0 = m1 at *
  generalize zs.getD 40962 0 = m2 at *
  generalize zs.getD 40963 0 = m3 at *
  clear h
  go_enter Try.func23, Try.ntmps23
  go_wp2
  exact bodyPost_ret (v := mapV zs) (by rw [HQ.out]; simp [results, Try.results23, go_sem]) rfl ⟨rfl, (Below.refl _ _).alloc (Nat.le_refl _) _⟩

end Go.Proofs.Ytlnoomganphbeaa
