/-
  The document's own Write: what may change turns as the program's bus turns.
-/
import Derived.Test.YtlnoomganphbeaaBusRefRead
import Derived.StillTailTactics
namespace Go.Proofs.Ytlnoomganphbeaa
open Go.RowKit

theorem Whole.putOther {w : World} {g k : Nat} {t : TypeId} {cs : List Value} (h : Whole w g t cs) (hne : g ≠ k) (o : Nat) (u : Value) : Whole (w.setCell ⟨k, o, none⟩ u) g t cs := h.other (p := ⟨k, o, none⟩) hne u
theorem Pre.putOther {w : World} {g k : Nat} {zs : List Int} (h : Pre w g zs) (hne : g ≠ k) (o : Nat) (u : Value) : Pre (w.setCell ⟨k, o, none⟩ u) g zs := by
  obtain ⟨ex, h⟩ := h
  exact ⟨ex, h.putOther hne o u⟩

section
variable {w : World} {r gr ga gp : Nat} {zs rs : List Int} {v : Int}
theorem ramL_length (hl : zs.length = 40964) : (ramL zs).length = 8192 := by unfold ramL; rw [List.length_take, hl]; rfl
theorem papL_length (hl : zs.length = 40964) : (papL zs).length = 32768 := by unfold papL; rw [List.length_take, List.length_drop, hl]; rfl
theorem RefIn.putRam (h : RefIn w r gr ga gp zs rs) (i : Nat) (hi : i < 8192) (v0 : 0 ≤ v) (v1 : v ≤ 255) : RefIn (w.setCell ⟨ga, i, none⟩ (.int .u8 v)) r gr ga gp (zs.set i v) rs := by
  obtain ⟨⟨ca, cp, hc⟩, h2, h3, h4, h5, h6, h7, h8, h9⟩ := h
  have hr : r ≠ ga := (h3.apart hc).symm
  refine ⟨⟨ca, cp, ?_⟩, h2.putOther h7 _ _, ?_, ?_, by rw [List.length_set, h5], h6.set i v0 v1, h7, h8, h9⟩
  · rw [getD_set _ _ _ _ (by omega), getD_set _ _ _ _ (by omega), getD_set _ _ _ _ (by omega), getD_set _ _ _ _ (by omega), if_neg (by omega), if_neg (by omega), if_neg (by omega), if_neg (by omega)]
    exact hc.putOther hr _ _
  · have e : ramL (zs.set i v) = (ramL zs).set i v := by unfold ramL; rw [List.take_set]
    rw [e]
    exact h3.put i (by rw [ramL_length h5]; exact hi) v
  · have e : papL (zs.set i v) = papL zs := by unfold papL; rw [List.drop_set, if_pos hi]
    rw [e]
    exact h4.putOther (Ne.symm h9) _ _
theorem RefIn.putPap (h : RefIn w r gr ga gp zs rs) (i : Nat) (hi : i < 32768) (v0 : 0 ≤ v) (v1 : v ≤ 255) : RefIn (w.setCell ⟨gp, i, none⟩ (.int .u8 v)) r gr ga gp (zs.set (8192 + i) v) rs := by
  obtain ⟨⟨ca, cp, hc⟩, h2, h3, h4, h5, h6, h7, h8, h9⟩ := h
  have hr : r ≠ gp := (h4.apart hc).symm
  refine ⟨⟨ca, cp, ?_⟩, h2.putOther h8 _ _, ?_, ?_, by rw [List.length_set, h5], h6.set _ v0 v1, h7, h8, h9⟩
  · rw [getD_set _ _ _ _ (by omega), getD_set _ _ _ _ (by omega), getD_set _ _ _ _ (by omega), getD_set _ _ _ _ (by omega), if_neg (by omega), if_neg (by omega), if_neg (by omega), if_neg (by omega)]
    exact hc.putOther hr _ _
  · have e : ramL (zs.set (8192 + i) v) = ramL zs := by
      unfold ramL
      rw [List.take_set, List.set_eq_of_length_le (by rw [List.length_take]; omega)]
    rw [e]
    exact h3.putOther h9 _ _
  · have e : papL (zs.set (8192 + i) v) = (papL zs).set i v := by
      unfold papL
      rw [List.drop_set, if_neg (by omega), List.take_set, Nat.add_sub_cancel_left]
    rw [e]
    exact h4.put i (by rw [papL_length h5]; exact hi) v
theorem RefIn.putMap (h : RefIn w r gr ga gp zs rs) (j : Nat) (hj : j < 4) (v0 : 0 ≤ v) (v1 : v ≤ 255) : RefIn (w.setCell ⟨r, 3 + j, none⟩ (.int .u8 v)) r gr ga gp (zs.set (40960 + j) v) rs := by
  obtain ⟨⟨ca, cp, hc⟩, h2, h3, h4, h5, h6, h7, h8, h9⟩ := h
  have ra : ga ≠ r := h3.apart hc
  have rp : gp ≠ r := h4.apart hc
  have rr : gr ≠ r := h2.apart hc (by decide)
  refine ⟨⟨ca, cp, ?_⟩, h2.putOther rr _ _, ?_, ?_, by rw [List.length_set, h5], h6.set _ v0 v1, h7, h8, h9⟩
  · rw [getD_set _ _ _ _ (by omega), getD_set _ _ _ _ (by omega), getD_set _ _ _ _ (by omega), getD_set _ _ _ _ (by omega)]
    have := hc.put (3 + j) (.int .u8 v)
    rcases (show j = 0 ∨ j = 1 ∨ j = 2 ∨ j = 3 by omega) with rfl | rfl | rfl | rfl <;> exact this
  · have e : ramL (zs.set (40960 + j) v) = ramL zs := by
      unfold ramL
      rw [List.take_set, List.set_eq_of_length_le (by rw [List.length_take]; omega)]
    rw [e]
    exact h3.putOther ra _ _
  · have e : papL (zs.set (40960 + j) v) = papL zs := by
      unfold papL
      rw [List.drop_set, if_neg (by omega), List.take_set, List.set_eq_of_length_le (by rw [List.length_take]; omega)]
    rw [e]
    exact h4.putOther rp _ _
end

/-- the blocks that the document's bus may turn -/
def RefB (r ga gp : Nat) (k : Nat) : Prop := k = r ∨ k = ga ∨ k = gp

set_option maxRecDepth 100000 in
set_option maxHeartbeats 1600000 in
theorem rwrite_any (r gr ga gp : Nat) (zs rs : List Int) (a v : Int) (h0 : 0 ≤ a) (h1 : a ≤ 65535) (v0 : 0 ≤ v) (v1 : v ≤ 255) (w : World) (h : RefIn w r gr ga gp zs rs) :
    Calls Try.prog 21 #[.pointer (some ⟨r, 0, none⟩), .int .u16 a, .int .u8 v] w fun e w' => e = .returned (.tuple #[]) ∧ RefIn w' r gr ga gp (writeOf zs a v) rs ∧ Only w w' (RefB r ga gp) := by
  have H := Lib.hid h
  have HD : Hid (RefIn w.drew r gr ga gp zs rs) := h.next ((Below.refl _ _).drew)
  obtain ⟨ca, cp, hc⟩ := h.cells
  have c1 : w.cell? ⟨r, 1, none⟩ = some (.slice (some ⟨ga, 0, none⟩) 8192 ca) := hc.at_ 1
  have c2 : w.cell? ⟨r, 2, none⟩ = some (.slice (some ⟨gp, 0, none⟩) 32768 cp) := hc.at_ 2
  by_cases q1 : 49152 ≤ a
  · have hcell := h.ram.at_ (a % 8192).toNat (by rw [ramL_length h.len]; omega)
    have hfr := h.ram.free (a % 8192).toNat
    have B1 : Hid (RefIn (w.setCell ⟨ga, (a % 8192).toNat, none⟩ (.int .u8 v)) r gr ga gp (zs.set (a % 8192).toNat v) rs) := h.putRam (a % 8192).toNat (by omega) v0 v1
    have hset : placeSet zs a v = zs.set (a % 8192).toNat v := by unfold placeSet placeOf; rw [if_pos q1]
    by_cases q2 : 65532 ≤ a
    · have hW : Hid (writeOf zs a v = (zs.set (a % 8192).toNat v).set (40960 + (a - 65532).toNat) v) := by show _ = _; rw [writeOf, if_pos q2, hset]
      have B2 : Hid (RefIn ((w.setCell ⟨ga, (a % 8192).toNat, none⟩ (.int .u8 v)).setCell ⟨r, 3 + (a - 65532).toNat, none⟩ (.int .u8 v)) r gr ga gp (writeOf zs a v) rs) := by
        rw [hW.out]
        exact B1.out.putMap (a - 65532).toNat (by omega) v0 v1
      obtain ⟨ca', cp', hc'⟩ := B1.out.cells
      have hcell2 : ∃ u, (w.setCell ⟨ga, (a % 8192).toNat, none⟩ (.int .u8 v)).cell? ⟨r, 3 + (a - 65532).toNat, none⟩ = some (.int .u8 u) := by
        rw [hc'.at_ (3 + (a - 65532).toNat)]
        rcases (show (a - 65532).toNat = 0 ∨ (a - 65532).toNat = 1 ∨ (a - 65532).toNat = 2 ∨ (a - 65532).toNat = 3 by omega) with e | e | e | e <;> rw [e] <;> exact ⟨_, rfl⟩
      obtain ⟨u, hu⟩ := hcell2
      have hfr2 := hc'.free (3 + (a - 65532).toNat)
      generalize (ramL zs).getD (a % 8192).toNat 0 = x at hcell
      clear h hc hset hc' c2
      go_enter Try.func21, Try.ntmps21
      go_wp2_with fail
      go_end0
      exact ⟨rfl, B2.out, ((Only.refl _ _).put (.inr (.inl rfl)) _ _).put (.inl rfl) _ _⟩
    · have hW : Hid (writeOf zs a v = zs.set (a % 8192).toNat v) := by show _ = _; rw [writeOf, if_neg q2, hset]
      generalize (ramL zs).getD (a % 8192).toNat 0 = x at hcell
      clear h hc hset c2
      go_enter Try.func21, Try.ntmps21
      go_wp2_with fail
      go_end0
      exact ⟨rfl, by rw [hW.out]; exact B1.out, (Only.refl _ _).put (.inr (.inl rfl)) _ _⟩
  · obtain ⟨p, hp⟩ : ∃ p, papV zs a = p := ⟨_, rfl⟩
    have HP := Lib.hid hp
    by_cases q2 : 0 ≤ p
    · obtain ⟨e1, e2, e3, e4⟩ := papV_place (zs := zs) (a := a) (by rw [hp]; exact q2)
      rw [hp] at e1 e2
      have hcell := HD.out.pap.at_ p.toNat (by rw [papL_length h.len]; omega)
      have hfr := HD.out.pap.free p.toNat
      have hW : Hid (writeOf zs a v = zs.set (8192 + p.toNat) v) := by show _ = _; rw [writeOf, if_neg (by omega), placeSet, e1]
      have B1 : Hid (RefIn (w.drew.setCell ⟨gp, p.toNat, none⟩ (.int .u8 v)) r gr ga gp (writeOf zs a v) rs) := by
        rw [hW.out]
        exact HD.out.putPap p.toNat (by omega) v0 v1
      generalize (papL zs).getD p.toNat 0 = x at hcell
      clear h hc hp e1 c1
      go_enter Try.func21, Try.ntmps21
      go_wp2_with (go_at_call 29; refine (paper_any r gr ga gp zs rs a h0 h1 _ H.out p HP.out).mono ?_; rintro e w' ⟨rfl, rfl⟩)
      go_still_tail 9, (by kernel_rfl)
      still_call (paper_any r gr ga gp zs rs a h0 h1 _ HD.out p HP.out)
      repeat still_step
      refine wpStill_nil ?_
      change wpList _ _ _ _ _ w'.drew
      obtain ⟨W, hW1⟩ : ∃ W, W = w'.drew := ⟨_, rfl⟩
      rw [← hW1] at hcell hfr B1 ⊢
      have HW1 := Lib.hid hW1
      clear hW1 c2
      go_wp2
      go_end0
      exact ⟨rfl, B1.out, by rw [HW1.out]; exact (Only.refl _ _).drew.put (.inr (.inr rfl)) _ _⟩
    · obtain ⟨e1, e2⟩ := papV_not (zs := zs) (a := a) (by omega) (by rw [hp]; omega)
      rw [hp] at e1
      subst e1
      have hW : Hid (writeOf zs a v = zs) := by show _ = _; rw [writeOf, if_neg (by omega), placeSet, e2]
      clear h hc hp e2 c1 c2
      go_enter Try.func21, Try.ntmps21
      go_wp2_with (go_at_call 29; refine (paper_any r gr ga gp zs rs a h0 h1 _ H.out _ HP.out).mono ?_; rintro e w' ⟨rfl, rfl⟩)
      go_end0
      exact ⟨rfl, by rw [hW.out]; exact H.out, Only.refl _ _⟩

end Go.Proofs.Ytlnoomganphbeaa
