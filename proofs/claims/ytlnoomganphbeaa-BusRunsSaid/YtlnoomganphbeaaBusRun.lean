/-
  The two buses side by side with a kept dump and the act that is done: each call of the law's loop in that word.
-/
import Derived.Test.YtlnoomganphbeaaBusRefLoad
import Derived.Test.YtlnoomganphbeaaBusSees
import Derived.Test.YtlnoomganphbeaaBusKeeps
import Derived.BigQuiet
import Derived.Deep.QuietTactic
namespace Go.Proofs.Ytlnoomganphbeaa
open Go.RowKit

/-- the two buses (zs, ys), and the kept bytes ks at kd -/
def Run (W0 w : World) (b g r : Nat) (zs ys rs : List Int) (kd kcap : Nat) (ks : List Int) : Prop :=
  ∃ d gr ga gp, Core W0 w b g d r gr ga gp zs ys rs ∧ Pre w kd ks ∧ ks.length = 40964 ∧ Oct ks ∧ 40964 ≤ kcap ∧ kd ≠ ga ∧ kd ≠ gp
/-- the same with the act's own cells at x -/
def RunA (W0 w : World) (b g r : Nat) (zs ys rs : List Int) (kd kcap : Nat) (ks : List Int) (x : Nat) (cs : List Value) : Prop := Run W0 w b g r zs ys rs kd kcap ks ∧ Whole w x 40 cs

section
variable {W0 w w' : World} {b g r : Nat} {zs ys zs' ys' rs : List Int} {kd kcap : Nat} {ks : List Int} {x : Nat} {cs : List Value}
theorem Run.next (h : Run W0 w b g r zs ys rs kd kcap ks) (hb : Below w.heap.size w w') : Run W0 w' b g r zs ys rs kd kcap ks := by
  obtain ⟨d, gr, ga, gp, h1, h2, h3⟩ := h
  exact ⟨d, gr, ga, gp, h1.next hb, h2.only (p := fun _ => False) (Only.below hb) id, h3⟩
theorem RunA.next (h : RunA W0 w b g r zs ys rs kd kcap ks x cs) (hb : Below w.heap.size w w') : RunA W0 w' b g r zs ys rs kd kcap ks x cs := ⟨h.1.next hb, h.2.under hb h.2.inside⟩
theorem RunA.drewN (h : RunA W0 w b g r zs ys rs kd kcap ks x cs) (n : Nat) : Hid (RunA W0 (w.drewN n) b g r zs ys rs kd kcap ks x cs) := h.next (below_drewN w n)
theorem Run.bel (h : Run W0 w b g r zs ys rs kd kcap ks) : Below W0.heap.size W0 w := by
  obtain ⟨d, gr, ga, gp, h1, _⟩ := h
  exact h1.bel
theorem RunA.byBus (h : RunA W0 w b g r zs ys rs kd kcap ks x cs) (hB : BusAt w' b g zs') (hg : w.grownBy w' (some b)) : RunA W0 w' b g r zs' ys rs kd kcap ks x cs := by
  obtain ⟨⟨d, gr, ga, gp, h1, h2, h3⟩, h4⟩ := h
  have ho : Only w w' (fun k => k = b) := Only.grown hg rfl
  obtain ⟨ex, p⟩ := h2
  have n1 : kd ≠ b := p.apart h1.bus.1 (by decide)
  have n2 : x ≠ b := h4.apart h1.bus.1 (by decide)
  exact ⟨⟨d, gr, ga, gp, h1.byBus hB hg, ⟨ex, p.only ho n1⟩, h3⟩, h4.only ho n2⟩
end

section
variable (W0 : World) (b g r : Nat) (zs ys rs : List Int) (kd kcap : Nat) (ks : List Int) (x : Nat) (cs : List Value) (w : World) (h : Hid (RunA W0 w b g r zs ys rs kd kcap ks x cs))
include h
theorem ra_bread (M : Int) (hM : Hid (RomFit rs M)) (a v : Int) (h0 : 0 ≤ a) (h1 : a ≤ 65535) (hv : Hid (readOf rs M zs a = v)) :
    Calls Try.prog 18 #[.pointer (some ⟨b, 0, none⟩), .int .u16 a] w fun e w' => e = .returned (.int .u8 v) ∧ ∃ n, w' = w.drewN n := by
  have hv' := hv.out
  subst hv'
  obtain ⟨⟨d, gr, ga, gp, c, _⟩, _⟩ := h.out
  exact read_any b g zs rs M hM.out a h0 h1 w c.bus ⟨d, c.rom⟩
theorem ra_rread (M : Int) (hM : Hid (RomFit rs M)) (a v : Int) (h0 : 0 ≤ a) (h1 : a ≤ 65535) (hv : Hid (readOf rs M ys a = v)) :
    Calls Try.prog 19 #[.pointer (some ⟨r, 0, none⟩), .int .u16 a] w fun e w' => e = .returned (.int .u8 v) ∧ ∃ n, w' = w.drewN n := by
  have hv' := hv.out
  subst hv'
  obtain ⟨⟨d, gr, ga, gp, c, _⟩, _⟩ := h.out
  exact rread_any r gr ga gp ys rs M hM.out a h0 h1 w c.ref
theorem ra_bwrite (a v : Int) (h0 : 0 ≤ a) (h1 : a ≤ 65535) (v0 : 0 ≤ v) (v1 : v ≤ 255) :
    Calls Try.prog 20 #[.pointer (some ⟨b, 0, none⟩), .int .u16 a, .int .u8 v] w fun e w' => e = .returned (.tuple #[]) ∧ Hid (RunA W0 w' b g r (writeOf zs a v) ys rs kd kcap ks x cs) := by
  obtain ⟨⟨d, gr, ga, gp, c, _⟩, _⟩ := h.out
  exact (write_any b g zs a v h0 h1 v0 v1 w c.bus).mono fun _ _ ⟨he, hb, hg⟩ => ⟨he, h.out.byBus hb hg⟩
theorem ra_rwrite (a v : Int) (h0 : 0 ≤ a) (h1 : a ≤ 65535) (v0 : 0 ≤ v) (v1 : v ≤ 255) :
    Calls Try.prog 21 #[.pointer (some ⟨r, 0, none⟩), .int .u16 a, .int .u8 v] w fun e w' => e = .returned (.tuple #[]) ∧ Hid (RunA W0 w' b g r zs (writeOf ys a v) rs kd kcap ks x cs) := by
  obtain ⟨⟨d, gr, ga, gp, c, k1, k2, k3, k4, k5, k6⟩, hx⟩ := h.out
  refine (rwrite_any r gr ga gp ys rs a v h0 h1 v0 v1 w c.ref).mono fun _ w' ⟨he, hb, ho⟩ => ⟨he, ⟨d, gr, ga, gp, c.byRef hb ho c.na c.np c.da c.dp, ?_, k2, k3, k4, k5, k6⟩, ?_⟩
  · obtain ⟨ca, cp, hc⟩ := c.ref.cells
    have n1 := k1.apart hc
    exact k1.only ho (by rintro (h' | h' | h') <;> contradiction)
  · obtain ⟨ca, cp, hc⟩ := c.ref.cells
    obtain ⟨e1, p1⟩ := c.ref.ram
    obtain ⟨e2, p2⟩ := c.ref.pap
    have n1 : x ≠ r := hx.apart hc (by decide)
    have n2 : x ≠ ga := hx.apart p1 (by decide)
    have n3 : x ≠ gp := hx.apart p2 (by decide)
    exact hx.only ho (by rintro (h' | h' | h') <;> contradiction)
theorem ra_bload (k cap : Nat) (ds : List Int) (hp : Hid (Pre w k ds)) (hl : Hid (ds.length = 40964)) (hd : Hid (Oct ds)) (hcap : Hid (40964 ≤ cap)) :
    Calls Try.prog 12 #[.pointer (some ⟨b, 0, none⟩), .slice (some ⟨k, 0, none⟩) 40964 cap] w fun e w' => e = .returned (.int .i64 0) ∧ Hid (RunA W0 w' b g r ds ys rs kd kcap ks x cs) ∧ Hid (Pre w' k ds) := by
  obtain ⟨⟨d, gr, ga, gp, c, _⟩, _⟩ := h.out
  have hne : k ≠ b := by
    obtain ⟨ex, p⟩ := hp.out
    exact p.apart c.bus.1 (by decide)
  have hb : Bytes w w.heap.size (some ⟨k, 0, none⟩) 40964 ds := ⟨hl.out, fun _ => ⟨k, 0, rfl, hp.out.inside, fun i hi => by rw [Nat.zero_add]; exact hp.out.at_ i (by rw [hl.out]; exact hi)⟩⟩
  exact (load_good b g zs _ cap ds w c.bus hb hd.out hcap.out (by rintro y ⟨⟩; exact hne)).mono fun _ _ ⟨he, h1, h2⟩ => ⟨he, h.out.byBus h1 h2, hp.out.only (Only.grown (p := fun k => k = b) h2 rfl) hne⟩
theorem ra_rload (k cap : Nat) (ds : List Int) (hp : Hid (Pre w k ds)) (hl : Hid (ds.length = 40964)) (hd : Hid (Oct ds)) (hcap : Hid (40964 ≤ cap)) :
    Calls Try.prog 22 #[.pointer (some ⟨r, 0, none⟩), .slice (some ⟨k, 0, none⟩) 40964 cap] w fun e w' => e = .returned (.int .i64 0) ∧ Hid (RunA W0 w' b g r zs ds rs kd kcap ks x cs) := by
  obtain ⟨⟨d, gr, ga, gp, c, k1, k2, k3, k4, k5, k6⟩, hx⟩ := h.out
  refine (rload_good r gr ga gp k cap ys ds rs w c.ref hp.out hl.out hd.out hcap.out).mono fun _ w' ⟨a', p', he, hR, ho, n1, n2, _⟩ => ⟨he, ?_⟩
  obtain ⟨ca, cp, hc⟩ := c.ref.cells
  have hk := k1.inside
  have hdi : d < w.heap.size := by
    obtain ⟨_, _, _, _, q, _⟩ := c.rom
    exact q.inside
  have hW := c.bel.size
  refine ⟨⟨d, gr, a', p', c.byRef hR (ho.more fun k hk => .inl hk) (by omega) (by omega) (by omega) (by omega), k1.only ho (k1.apart hc), k2, k3, k4, by omega, by omega⟩, hx.only ho (hx.apart hc (by decide))⟩
theorem ra_bdump :
    Calls Try.prog 13 #[.pointer (some ⟨b, 0, none⟩)] w fun e w' => ∃ d, e = .returned (.slice (some ⟨d, 0, none⟩) 40964 40964) ∧ Hid (RunA W0 w' b g r zs ys rs d 40964 zs x cs) ∧ Hid (Whole w' d 5 (u8s zs)) := by
  obtain ⟨⟨d, gr, ga, gp, c, k1, k2, k3, k4, k5, k6⟩, hx⟩ := h.out
  refine (dump_any b g zs w c.bus).mono fun _ w' ⟨q, he, hq, hb, hw⟩ => ⟨q, he, ⟨⟨d, gr, ga, gp, c.next hb, ⟨[], by rw [List.append_nil]; exact hw⟩, c.bus.2.1, c.bus.2.2, Nat.le_refl _, ?_, ?_⟩, hx.under hb hx.inside⟩, hw⟩
  · have := c.ref.ram.inside; omega
  · have := c.ref.pap.inside; omega
theorem ra_mapper (z : Value) (hz : Hid (mapV zs = z)) :
    Calls Try.prog 23 #[.pointer (some ⟨b, 0, none⟩)] w fun e w' => e = .returned z ∧ Hid (RunA W0 w' b g r zs ys rs kd kcap ks x cs) := by
  have hz' := hz.out
  subst hz'
  obtain ⟨⟨d, gr, ga, gp, c, _⟩, _⟩ := h.out
  exact (mapper_any b g zs w c.bus).mono fun _ _ ⟨he, hb⟩ => ⟨he, h.out.next hb⟩
end

theorem RunA.kept {W0 w : World} {b g r : Nat} {zs ys rs : List Int} {kd kcap : Nat} {ks : List Int} {x : Nat} {cs : List Value} (h : Hid (RunA W0 w b g r zs ys rs kd kcap ks x cs)) :
    Hid (Pre w kd ks) ∧ Hid (ks.length = 40964) ∧ Hid (Oct ks) ∧ Hid (40964 ≤ kcap) := by
  obtain ⟨⟨d, gr, ga, gp, c, k1, k2, k3, k4, k5, k6⟩, hx⟩ := h.out
  exact ⟨k1, k2, k3, k4⟩
/-- the mapper's bytes of the document's bus -/
theorem RunA.maps {W0 w : World} {b g r : Nat} {zs ys rs : List Int} {kd kcap : Nat} {ks : List Int} {x : Nat} {cs : List Value} (h : Hid (RunA W0 w b g r zs ys rs kd kcap ks x cs)) :
    w.cell? ⟨r, 3, none⟩ = some (.int .u8 (ys.getD 40960 0)) ∧ w.cell? ⟨r, 4, none⟩ = some (.int .u8 (ys.getD 40961 0)) ∧ w.cell? ⟨r, 5, none⟩ = some (.int .u8 (ys.getD 40962 0)) ∧ w.cell? ⟨r, 6, none⟩ = some (.int .u8 (ys.getD 40963 0)) := by
  obtain ⟨⟨d, gr, ga, gp, c, k1, k2, k3, k4, k5, k6⟩, hx⟩ := h.out
  obtain ⟨ca, cp, hc⟩ := c.ref.cells
  exact ⟨hc.at_ 3, hc.at_ 4, hc.at_ 5, hc.at_ 6⟩

theorem text_of_pre {w : World} {g R c : Nat} {zs : List Int} (hR : R = zs.length) (h : Pre w g zs) :
    (convert 29 9 (.slice (some ⟨g, 0, none⟩) R c)).run Try.prog w = .ok (.string (strOfNums zs)) w := by
  subst hR
  refine run_convert_bytes_arg w 29 5 Try.underlying29 Try.underlying5 g 0 zs.length c zs rfl (fun i hi => ?_) 9 Try.underlying9
  rw [Nat.zero_add]
  exact h.at_ i hi
/-- a dump of either bus reads as this text, in whatever world behind -/
def Told (w : World) (k cap : Nat) (zs : List Int) : Prop := ∀ W : World, Below w.heap.size w W → (convert 29 9 (.slice (some ⟨k, 0, none⟩) 40964 cap)).run Try.prog W = .ok (.string (strOfNums zs)) W
theorem told_of {w : World} {k cap : Nat} {zs : List Int} (h : Pre w k zs) (hl : zs.length = 40964) : Told w k cap zs := fun _ hb =>
  text_of_pre hl.symm (h.only (p := fun _ => False) (Only.below hb) id)
section
variable (W0 : World) (b g r : Nat) (zs rs : List Int) (kd kcap : Nat) (ks : List Int) (w : World) (h : Hid (Run W0 w b g r zs zs rs kd kcap ks))
include h
theorem run_bdump : Calls Try.prog 13 #[.pointer (some ⟨b, 0, none⟩)] w fun e w' => ∃ d, e = .returned (.slice (some ⟨d, 0, none⟩) 40964 40964) ∧ Hid (Run W0 w' b g r zs zs rs kd kcap ks) ∧ Hid (Told w' d 40964 zs) ∧ Hid (Below w.heap.size w w') := by
  obtain ⟨d, gr, ga, gp, c, _⟩ := h.out
  exact (dump_any b g zs w c.bus).mono fun _ w' ⟨q, he, hq, hb, hw⟩ => ⟨q, he, h.out.next hb, told_of ⟨[], by rw [List.append_nil]; exact hw⟩ c.bus.2.1, hb⟩
theorem run_rdump : Calls Try.prog 17 #[.pointer (some ⟨r, 0, none⟩)] w fun e w' => ∃ d cap, e = .returned (.slice (some ⟨d, 0, none⟩) 40964 cap) ∧ Hid (Run W0 w' b g r zs zs rs kd kcap ks) ∧ Hid (Told w' d cap zs) ∧ Hid (Below w.heap.size w w') := by
  obtain ⟨d, gr, ga, gp, c, _⟩ := h.out
  exact (rdump_any r gr ga gp zs rs w c.ref).mono fun _ w' ⟨q, cap, he, hc, hq, hb, hp⟩ => ⟨q, cap, he, h.out.next hb, told_of hp c.ref.len, hb⟩
end
theorem Told.here {w : World} {k cap : Nat} {zs : List Int} (h : Hid (Told w k cap zs)) : (convert 29 9 (.slice (some ⟨k, 0, none⟩) 40964 cap)).run Try.prog w = .ok (.string (strOfNums zs)) w := h.out w (Below.refl _ _)
theorem Told.later {w w' : World} {k cap : Nat} {zs : List Int} (h : Hid (Told w k cap zs)) (hb : Hid (Below w.heap.size w w')) : (convert 29 9 (.slice (some ⟨k, 0, none⟩) 40964 cap)).run Try.prog w' = .ok (.string (strOfNums zs)) w' := h.out w' hb.out

/-- the mapper's four bytes, by name -/
def MapIs (zs : List Int) (z0 z1 z2 z3 : Int) : Prop := zs.getD 40960 0 = z0 ∧ zs.getD 40961 0 = z1 ∧ zs.getD 40962 0 = z2 ∧ zs.getD 40963 0 = z3
theorem map_named (zs : List Int) : ∃ z0 z1 z2 z3, Hid (MapIs zs z0 z1 z2 z3) := ⟨_, _, _, _, rfl, rfl, rfl, rfl⟩
theorem MapIs.val {zs : List Int} {z0 z1 z2 z3 : Int} (h : Hid (MapIs zs z0 z1 z2 z3)) : Hid (mapV zs = .agg #[.int .u8 z0, .int .u8 z1, .int .u8 z2, .int .u8 z3]) := by
  obtain ⟨rfl, rfl, rfl, rfl⟩ := h.out
  exact (rfl : mapV zs = _)
theorem RunA.mapsZ {W0 w : World} {b g r : Nat} {zs ys rs : List Int} {kd kcap : Nat} {ks : List Int} {x : Nat} {cs : List Value} {z0 z1 z2 z3 : Int} (h : Hid (RunA W0 w b g r zs ys rs kd kcap ks x cs)) (hz : Hid (MapIs ys z0 z1 z2 z3)) :
    w.cell? ⟨r, 3, none⟩ = some (.int .u8 z0) ∧ w.cell? ⟨r, 4, none⟩ = some (.int .u8 z1) ∧ w.cell? ⟨r, 5, none⟩ = some (.int .u8 z2) ∧ w.cell? ⟨r, 6, none⟩ = some (.int .u8 z3) := by
  obtain ⟨rfl, rfl, rfl, rfl⟩ := hz.out
  exact RunA.maps h

end Go.Proofs.Ytlnoomganphbeaa
