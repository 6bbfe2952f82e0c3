/-
  The program's bus and the document's, side by side behind a world: each call in that word.
-/
import Derived.Test.YtlnoomganphbeaaBusRefNew
import Derived.Test.YtlnoomganphbeaaBusShows
namespace Go.Proofs.Ytlnoomganphbeaa
open Go.RowKit

/-- in w, behind W0: the program's bus at b (its cartridge at g, its bytes at d) holds zs; the document's at r holds ys; both over the bytes rs -/
structure Core (W0 w : World) (b g d r gr ga gp : Nat) (zs ys rs : List Int) : Prop where
  bus : BusAt w b g zs
  rom : RomIn w g d rs
  ref : RefIn w r gr ga gp ys rs
  bel : Below W0.heap.size W0 w
  nb : W0.heap.size ≤ b
  nr : W0.heap.size ≤ r
  na : W0.heap.size ≤ ga
  np : W0.heap.size ≤ gp
  da : d ≠ ga
  dp : d ≠ gp
section
variable {W0 w w' : World} {b g d r gr ga gp ga' gp' : Nat} {zs ys zs' ys' rs : List Int}
theorem RomIn.only {p : Nat → Prop} (h : RomIn w g d rs) (ho : Only w w' p) (hg : ¬ p g) (hd : ¬ p d) : RomIn w' g d rs := by
  obtain ⟨k, sem, s, h1, h2, h3⟩ := h
  exact ⟨k, sem, s, h1.only ho hg, h2.only ho hd, h3⟩
theorem RefIn.only {p : Nat → Prop} (h : RefIn w r gr ga gp ys rs) (ho : Only w w' p) (hr : ¬ p r) (hg : ¬ p gr) (ha : ¬ p ga) (hp : ¬ p gp) : RefIn w' r gr ga gp ys rs := by
  obtain ⟨⟨ca, cp, hc⟩, h2, h3, h4, h5, h6, h7, h8, h9⟩ := h
  exact ⟨⟨ca, cp, hc.only ho hr⟩, h2.only ho hg, h3.only ho ha, h4.only ho hp, h5, h6, h7, h8, h9⟩
theorem BusAt.only {p : Nat → Prop} (h : BusAt w b g zs) (ho : Only w w' p) (hb : ¬ p b) : BusAt w' b g zs := ⟨h.1.only ho hb, h.2⟩
theorem Core.next (h : Core W0 w b g d r gr ga gp zs ys rs) (hb : Below w.heap.size w w') : Core W0 w' b g d r gr ga gp zs ys rs := by
  have ho : Only w w' (fun _ => False) := Only.below hb
  exact ⟨h.bus.next hb, h.rom.only ho id id, h.ref.next hb, below_next h.bel hb, h.nb, h.nr, h.na, h.np, h.da, h.dp⟩
theorem Core.byBus (h : Core W0 w b g d r gr ga gp zs ys rs) (hB : BusAt w' b g zs') (hg : w.grownBy w' (some b)) : Core W0 w' b g d r gr ga gp zs' ys rs := by
  have ho : Only w w' (fun k => k = b) := Only.grown hg rfl
  obtain ⟨k, sem, s, h1, h2, h3⟩ := h.rom
  obtain ⟨ca, cp, hc⟩ := h.ref.cells
  obtain ⟨e1, p1⟩ := h.ref.ram
  obtain ⟨e2, p2⟩ := h.ref.pap
  have n1 : g ≠ b := h1.apart h.bus.1 (by decide)
  have n2 : d ≠ b := h2.apart h.bus.1 (by decide)
  have n3 : r ≠ b := hc.apart h.bus.1 (by decide)
  have n4 : ga ≠ b := p1.apart h.bus.1 (by decide)
  have n5 : gp ≠ b := p2.apart h.bus.1 (by decide)
  have n6 : gr ≠ b := h.ref.rom.apart h.bus.1 (by decide)
  exact ⟨hB, h.rom.only ho n1 n2, h.ref.only ho n3 n6 n4 n5, ho.toBelow h.bel (by rintro k rfl; exact h.nb), h.nb, h.nr, h.na, h.np, h.da, h.dp⟩
theorem Core.byRef (h : Core W0 w b g d r gr ga gp zs ys rs) (hR : RefIn w' r gr ga' gp' ys' rs) (ho : Only w w' (RefB r ga gp)) (h1 : W0.heap.size ≤ ga') (h2 : W0.heap.size ≤ gp') (h3 : d ≠ ga') (h4 : d ≠ gp') : Core W0 w' b g d r gr ga' gp' zs ys' rs := by
  obtain ⟨k, sem, s, r1, r2, r3⟩ := h.rom
  obtain ⟨ca, cp, hc⟩ := h.ref.cells
  obtain ⟨e1, p1⟩ := h.ref.ram
  obtain ⟨e2, p2⟩ := h.ref.pap
  have n3 : b ≠ r := h.bus.1.apart hc (by decide)
  have n4 : b ≠ ga := h.bus.1.apart p1 (by decide)
  have n5 : b ≠ gp := h.bus.1.apart p2 (by decide)
  have g3 : g ≠ r := r1.apart hc (by decide)
  have g4 : g ≠ ga := r1.apart p1 (by decide)
  have g5 : g ≠ gp := r1.apart p2 (by decide)
  have d3 : d ≠ r := r2.apart hc (by decide)
  have nb : ¬ RefB r ga gp b := by rintro (h' | h' | h') <;> contradiction
  have ng : ¬ RefB r ga gp g := by rintro (h' | h' | h') <;> contradiction
  have nd : ¬ RefB r ga gp d := by rintro (h' | h' | h') <;> first | contradiction | exact h.da h' | exact h.dp h'
  exact ⟨h.bus.only ho nb, h.rom.only ho ng nd, hR, ho.toBelow h.bel (by rintro k (rfl | rfl | rfl) <;> first | exact h.nr | exact h.na | exact h.np), h.nb, h.nr, h1, h2, h3, h4⟩
end

section
variable (W0 : World) (b g d r gr ga gp : Nat) (zs ys rs : List Int) (M : Int) (hM : Hid (RomFit rs M)) (w : World) (h : Hid (Core W0 w b g d r gr ga gp zs ys rs))
include h
theorem c_bwrite (zs' : List Int) (a v : Int) (h0 : 0 ≤ a) (h1 : a ≤ 65535) (v0 : 0 ≤ v) (v1 : v ≤ 255) (hz : Hid (writeOf zs a v = zs')) :
    Calls Try.prog 20 #[.pointer (some ⟨b, 0, none⟩), .int .u16 a, .int .u8 v] w fun e w' => e = .returned (.tuple #[]) ∧ Hid (Core W0 w' b g d r gr ga gp zs' ys rs) ∧ Hid (w.grownBy w' (some b)) := by
  have hz' := hz.out
  subst hz'
  exact (write_any b g zs a v h0 h1 v0 v1 w h.out.bus).mono fun _ _ ⟨he, hb, hg⟩ => ⟨he, h.out.byBus hb hg, hg⟩
theorem c_rwrite (ys' : List Int) (a v : Int) (h0 : 0 ≤ a) (h1 : a ≤ 65535) (v0 : 0 ≤ v) (v1 : v ≤ 255) (hz : Hid (writeOf ys a v = ys')) :
    Calls Try.prog 21 #[.pointer (some ⟨r, 0, none⟩), .int .u16 a, .int .u8 v] w fun e w' => e = .returned (.tuple #[]) ∧ Hid (Core W0 w' b g d r gr ga gp zs ys' rs) ∧ Hid (Only w w' (RefB r ga gp)) := by
  have hz' := hz.out
  subst hz'
  exact (rwrite_any r gr ga gp ys rs a v h0 h1 v0 v1 w h.out.ref).mono fun _ _ ⟨he, hb, hg⟩ => ⟨he, h.out.byRef hb hg h.out.na h.out.np h.out.da h.out.dp, hg⟩
include hM
theorem c_bread (a v : Int) (h0 : 0 ≤ a) (h1 : a ≤ 65535) (hv : Hid (readOf rs M zs a = v)) :
    Calls Try.prog 18 #[.pointer (some ⟨b, 0, none⟩), .int .u16 a] w fun e w' => e = .returned (.int .u8 v) ∧ Hid (Core W0 w' b g d r gr ga gp zs ys rs) ∧ Hid (∃ n, w' = w.drewN n) := by
  have hv' := hv.out
  subst hv'
  exact (read_any b g zs rs M hM.out a h0 h1 w h.out.bus ⟨d, h.out.rom⟩).mono fun _ _ ⟨he, n, hn⟩ => ⟨he, by subst hn; exact h.out.next (below_drewN w n), n, hn⟩
theorem c_rread (a v : Int) (h0 : 0 ≤ a) (h1 : a ≤ 65535) (hv : Hid (readOf rs M ys a = v)) :
    Calls Try.prog 19 #[.pointer (some ⟨r, 0, none⟩), .int .u16 a] w fun e w' => e = .returned (.int .u8 v) ∧ Hid (Core W0 w' b g d r gr ga gp zs ys rs) ∧ Hid (∃ n, w' = w.drewN n) := by
  have hv' := hv.out
  subst hv'
  exact (rread_any r gr ga gp ys rs M hM.out a h0 h1 w h.out.ref).mono fun _ _ ⟨he, n, hn⟩ => ⟨he, by subst hn; exact h.out.next (below_drewN w n), n, hn⟩
end

/-- the document's cartridge, made of an image -/
theorem rnew_img (W0 : World) (a : Option Addr) (L n : Nat) (hn : n ≤ 12) (w : World) (hi : Hid (Img W0 w a L n)) :
    Calls Try.prog 16 #[.slice a L L] w fun e w' => ∃ gr R, e = .returned (.slice (some ⟨gr, 0, none⟩) R R) ∧ Hid (R = (imgRom n).length) ∧ Hid (Whole w' gr 5 (u8s (imgRom n))) ∧ Hid (Below w.heap.size w w') := by
  obtain ⟨rfl, h1, h2⟩ := hi
  have hl := romOf_length (img n) (by rw [img_length]; omega)
  rw [img_length] at hl
  have hb := bk_room (n * 16384) (by omega)
  exact (rnew_any a _ _ (img n) _ _ rfl (by rw [hl]; omega) (show _ = (romOf (img n)).length from rfl) w h1 (by omega)).mono fun _ _ ⟨g, he, hg, hb, hw⟩ => ⟨g, _, he, rfl, hw, hb⟩

end Go.Proofs.Ytlnoomganphbeaa
