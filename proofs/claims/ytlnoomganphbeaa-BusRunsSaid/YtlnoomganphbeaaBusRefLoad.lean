/-
  The document's own Load: of so many bytes all is as they say; of others nothing is done.
-/
import Derived.Test.YtlnoomganphbeaaBusRefDump
namespace Go.Proofs.Ytlnoomganphbeaa
open Go.RowKit

set_option maxRecDepth 100000 in
theorem rload_bad (r : Nat) (a : Option Addr) (n cap : Nat) (hn : ¬ (n : Int) = 40964) (w : World) :
    Calls Try.prog 22 #[.pointer (some ⟨r, 0, none⟩), .slice a n cap] w fun e w' => e = .returned (.int .i64 21) ∧ w = w' := by
  go_enter Try.func22, Try.ntmps22
  go_wp2
  go_ret
  exact ⟨rfl, rfl⟩

def mixM (zs ds : List Int) (k j : Nat) : Int := if j < k then ds.getD (40960 + j) 0 else zs.getD (40960 + j) 0
/-- what is known at each round of the loop over the mapper's bytes -/
structure LoadAt (w wr : World) (r gr k1 c1 k2 c2 kd : Nat) (zs ds rs : List Int) (k : Nat) : Prop where
  cells : Whole wr r 49 [.slice (some ⟨gr, 0, none⟩) rs.length rs.length, .slice (some ⟨k1, 0, none⟩) 8192 c1, .slice (some ⟨k2, 0, none⟩) 32768 c2,
    .int .u8 (mixM zs ds k 0), .int .u8 (mixM zs ds k 1), .int .u8 (mixM zs ds k 2), .int .u8 (mixM zs ds k 3)]
  rom : Whole wr gr 5 (u8s rs)
  ram : Pre wr k1 (ramL ds)
  pap : Pre wr k2 (papL ds)
  src : Pre wr kd ds
  only : Only w wr (fun k => k = r)
  n1 : w.heap.size ≤ k1
  n2 : w.heap.size ≤ k2
  n3 : k1 ≠ k2

section
variable {w wr : World} {r gr k1 c1 k2 c2 kd : Nat} {zs ds rs : List Int} {k : Nat}
theorem LoadAt.drew (h : LoadAt w wr r gr k1 c1 k2 c2 kd zs ds rs k) : LoadAt w wr.drew r gr k1 c1 k2 c2 kd zs ds rs k := by
  obtain ⟨h1, h2, ⟨e3, h3⟩, ⟨e4, h4⟩, ⟨e5, h5⟩, h6, h7, h8, h9⟩ := h
  exact ⟨h1, h2, ⟨e3, h3⟩, ⟨e4, h4⟩, ⟨e5, h5⟩, h6.drew, h7, h8, h9⟩
theorem LoadAt.step (h : LoadAt w wr r gr k1 c1 k2 c2 kd zs ds rs k) (hk : k < 4) : LoadAt w (wr.setCell ⟨r, 3 + k, none⟩ (.int .u8 (ds.getD (40960 + k) 0))) r gr k1 c1 k2 c2 kd zs ds rs (k + 1) := by
  obtain ⟨h1, h2, h3, h4, h5, h6, h7, h8, h9⟩ := h
  refine ⟨?_, h2.putOther (h2.apart h1 (by decide)) _ _, h3.putOther (h3.apart h1) _ _, h4.putOther (h4.apart h1) _ _, h5.putOther (h5.apart h1) _ _, h6.put rfl _ _, h7, h8, h9⟩
  have := h1.put (3 + k) (.int .u8 (ds.getD (40960 + k) 0))
  rcases (show k = 0 ∨ k = 1 ∨ k = 2 ∨ k = 3 by omega) with rfl | rfl | rfl | rfl <;> exact this
theorem LoadAt.done (h : LoadAt w wr r gr k1 c1 k2 c2 kd zs ds rs 4) (hl : ds.length = 40964) (ho : Oct ds) (hg : gr < w.heap.size) : RefIn wr r gr k1 k2 ds rs := by
  obtain ⟨h1, h2, h3, h4, h5, h6, h7, h8, h9⟩ := h
  exact ⟨⟨c1, c2, h1⟩, h2, h3, h4, hl, ho, by omega, by omega, h9⟩
end

theorem Pre.cellsFrom {w : World} {kd : Nat} {ds : List Int} (h : Pre w kd ds) (o m : Nat) (j : Nat) (u : Value) (hu : (u8s ((ds.drop o).take m))[j]? = some u) : w.cell? ((⟨kd, o, none⟩ : Addr).add j) = some u := by
  have ha : (⟨kd, o, none⟩ : Addr).add j = ⟨kd, o + j, none⟩ := by unfold Addr.add; split <;> simp_all
  rw [u8s_get, List.getElem?_take] at hu
  split at hu
  · rw [List.getElem?_drop] at hu
    have hj : o + j < ds.length := by
      rcases Nat.lt_or_ge (o + j) ds.length with h' | h'
      · exact h'
      · rw [List.getElem?_eq_none h'] at hu; simp at hu
    rw [ha, h.at_ _ hj, List.getD_eq_getElem?_getD]
    rw [List.getElem?_eq_getElem hj] at hu ⊢
    simpa using hu
  · simp at hu
theorem Pre.cellsRam {w : World} {kd : Nat} {ds : List Int} (h : Pre w kd ds) (j : Nat) (u : Value) (hu : (u8s (ramL ds))[j]? = some u) : w.cell? ((⟨kd, 0, none⟩ : Addr).add j) = some u :=
  h.cellsFrom 0 8192 j u (by rw [List.drop_zero]; exact hu)
theorem Pre.cellsPap {w : World} {kd : Nat} {ds : List Int} (h : Pre w kd ds) (j : Nat) (u : Value) (hu : (u8s (papL ds))[j]? = some u) : w.cell? ((⟨kd, 8192, none⟩ : Addr).add j) = some u :=
  h.cellsFrom 8192 32768 j u hu
theorem below_none {w w' : World} {B : Nat} (h : w.grownBy w' (some B)) (hB : w.heap.size ≤ B) : Below w.heap.size w w' :=
  ⟨h.os, h.tape, h.output, h.size, fun k hk => h.block k hk (by intro e; cases e; omega)⟩

/-- between the two parts of the load: the RAM is laid -/
structure Mid (w w13 W : World) (r gr k1 c1 kd : Nat) (S : Value) (zs ds rs : List Int) : Prop where
  cells : Whole W r 49 [.slice (some ⟨gr, 0, none⟩) rs.length rs.length, .slice (some ⟨k1, 0, none⟩) 8192 c1, S,
    .int .u8 (zs.getD 40960 0), .int .u8 (zs.getD 40961 0), .int .u8 (zs.getD 40962 0), .int .u8 (zs.getD 40963 0)]
  rom : Whole W gr 5 (u8s rs)
  ram : Pre W k1 (ramL ds)
  src : Pre W kd ds
  only : Only w W (fun k => k = r)
  n1 : w.heap.size ≤ k1
  lr : r < w13.heap.size
  lg : gr < w13.heap.size
  l1 : k1 < w13.heap.size
  lk : kd < w13.heap.size
  own : W.ownsRow w13.heap.size 5 1 (.slice (some ⟨w13.heap.size, 0, none⟩) 0 0) 0 []
  size : w13.heap.size ≤ W.heap.size
  below : w.heap.size ≤ w13.heap.size
theorem mid_made {w w13 : World} {r gr k1 c1 kd : Nat} {S0 S : Value} {zs ds rs : List Int} (hb : Below w.heap.size w w13)
    (hc : Whole w r 49 [.slice (some ⟨gr, 0, none⟩) rs.length rs.length, S0, S, .int .u8 (zs.getD 40960 0), .int .u8 (zs.getD 40961 0), .int .u8 (zs.getD 40962 0), .int .u8 (zs.getD 40963 0)])
    (hrom : Whole w gr 5 (u8s rs)) (hs : Pre w kd ds) (hp : Pre w13 k1 (ramL ds)) (hk : w.heap.size ≤ k1) :
    Mid w w13 ((w13.setCell ⟨r, 1, none⟩ (.slice (some ⟨k1, 0, none⟩) 8192 c1)).alloc (.cells #[] 5)) r gr k1 c1 kd S zs ds rs := by
  have hc' := hc.under hb hc.inside
  have hr' := hrom.under hb hrom.inside
  have hs' : Pre w13 kd ds := hs.only (p := fun _ => False) (Only.below hb) id
  have n1 : gr ≠ r := hrom.apart hc (by decide)
  have n2 : kd ≠ r := hs.apart hc
  have n3 : k1 ≠ r := by have := hc.inside; omega
  have hz : (w13.setCell ⟨r, 1, none⟩ (.slice (some ⟨k1, 0, none⟩) 8192 c1)).heap.size = w13.heap.size := by simp [World.setCell]
  obtain ⟨e1, q1⟩ := hp.putOther n3 1 (.slice (some ⟨k1, 0, none⟩) 8192 c1)
  obtain ⟨e2, q2⟩ := hs'.putOther n2 1 (.slice (some ⟨k1, 0, none⟩) 8192 c1)
  refine ⟨(hc'.put 1 _).beside _, (hr'.putOther n1 _ _).beside _, ⟨e1, q1.beside _⟩, ⟨e2, q2.beside _⟩, ?_, hk, hc'.inside, hr'.inside, hp.inside, hs'.inside, ?_, ?_, hb.size⟩
  · refine (Only.put (p := fun k => k = r) (Only.below hb) (g := r) rfl 1 _).trans (Only.below ((Below.refl _ _).alloc (Nat.le_refl _) _))
  · have := own_empty (w13.setCell ⟨r, 1, none⟩ (.slice (some ⟨k1, 0, none⟩) 8192 c1))
    rwa [hz] at this
  · rw [World.size_alloc, hz]; omega
theorem mid_done {w w13 W w20 : World} {r gr k1 c1 k2 c2 kd : Nat} {S : Value} {zs ds rs : List Int} (h : Mid w w13 W r gr k1 c1 kd S zs ds rs) (hg : W.grownBy w20 (some w13.heap.size)) (hp : Pre w20 k2 (papL ds)) (hk : w13.heap.size ≤ k2) :
    LoadAt w (w20.setCell ⟨r, 2, none⟩ (.slice (some ⟨k2, 0, none⟩) 32768 c2)) r gr k1 c1 k2 c2 kd zs ds rs 0 := by
  obtain ⟨h1, h2, h3, h4, h5, h6, lr, lg, l1, lk, _, hz, hz2⟩ := h
  have ho : Only W w20 (fun k => k = w13.heap.size) := Only.grown hg rfl
  have q1 := h1.only ho (by omega)
  have q2 := h2.only ho (by omega)
  have q3 := h3.only ho (by omega)
  have q4 := h4.only ho (by omega)
  refine ⟨q1.put 2 _, q2.putOther (q2.apart q1 (by decide)) _ _, q3.putOther (q3.apart q1) _ _, hp.putOther (by omega) _ _, q4.putOther (q4.apart q1) _ _, ?_, h6, by omega, by omega⟩
  refine Only.put (p := fun k => k = r) ?_ (g := r) rfl 2 _
  exact ⟨hg.os.trans h5.os, hg.tape.trans h5.tape, hg.output.trans h5.output, Nat.le_trans h5.size hg.size, fun k hk hn => (ho.block k (Nat.lt_of_lt_of_le hk h5.size) (by omega)).trans (h5.block k hk hn)⟩
theorem Mid.cell2 {w w13 W w20 : World} {r gr k1 c1 kd : Nat} {S : Value} {zs ds rs : List Int} (h : Mid w w13 W r gr k1 c1 kd S zs ds rs) (hg : W.grownBy w20 (some w13.heap.size)) : w20.cell? ⟨r, 2, none⟩ = some S ∧ w20.frozen? ⟨r, 2, none⟩ = false := by
  have := h.cells.only (Only.grown (p := fun k => k = w13.heap.size) hg rfl) (by have := h.lr; omega)
  exact ⟨this.at_ 2, this.free 2⟩

set_option maxRecDepth 100000 in
set_option maxHeartbeats 1600000 in
theorem rload_good (r gr ga gp kd cap : Nat) (zs ds rs : List Int) (w : World) (h : RefIn w r gr ga gp zs rs) (hd : Pre w kd ds) (hl : ds.length = 40964) (ho : Oct ds) (hcap : 40964 ≤ cap) :
    Calls Try.prog 22 #[.pointer (some ⟨r, 0, none⟩), .slice (some ⟨kd, 0, none⟩) 40964 cap] w fun e w' => ∃ k1 k2, e = .returned (.int .i64 0) ∧ RefIn w' r gr k1 k2 ds rs ∧ Only w w' (fun k => k = r) ∧ w.heap.size ≤ k1 ∧ w.heap.size ≤ k2 ∧ Pre w' kd ds := by
  obtain ⟨i0, hi, hz0, hz1, hz2⟩ := info_parts u8_info
  obtain ⟨ca, cp, hc⟩ := h.cells
  have HI := Lib.hid hi
  have HZ0 := Lib.hid hz0
  have HZ1 := Lib.hid hz1
  have HZ2 := Lib.hid hz2
  have HDL := Lib.hid hl
  have HO := Lib.hid ho
  have HGR := h.rom.inside
  have HROM := Lib.hid h.rom
  have HC := Lib.hid hc
  have HS := Lib.hid hd
  have hr : r < w.heap.size := hc.inside
  have hkr : kd ≠ r := hd.apart hc
  have hkd := hd.inside
  have L1 : Hid ((u8s (ramL ds)).length = 8192 * 1) := by show _ = _; rw [u8s_length, ramL_length hl]
  have L2 : Hid ((u8s (papL ds)).length = 32768 * 1) := by show _ = _; rw [u8s_length, papL_length hl]
  have B1 : Hid (Below w.heap.size w (w.alloc (.cells #[] 5))) := (Below.refl _ _).alloc (Nat.le_refl _) _
  have O1 : Hid ((w.alloc (.cells #[] 5)).ownsRow w.heap.size 5 1 (.slice (some ⟨w.heap.size, 0, none⟩) 0 0) 0 []) := own_empty w
  have S1 : Hid (Pre (w.alloc (.cells #[] 5)) kd ds) := hd.only (p := fun _ => False) (Only.below B1.out) id
  have N1 : ¬ cap = 8192 := by omega
  clear h hc hi hz0 hz1 hz2 hd hl ho
  go_enter Try.func22, Try.ntmps22
  go_wp2_with (first
    | ((with_reducible refine wpList_append_own _ rfl (.tmp 10) (.tmp 12) 29 rfl w.heap.size 5 i0 (.int .u8 0) 1 1 Try.underlying29 HI.out HZ0.out HZ1.out HZ2.out rfl (by decide) (.slice (some ⟨w.heap.size, 0, none⟩) 0 0) 0 [] rfl O1.out ⟨kd, 0, none⟩ 8192 cap (u8s (ramL ds)) rfl L1.out S1.out.cellsRam (u8s_one _) (by unfold maxLen; omega) (by omega) B1.out.size ?_); intro v13 w13 ho13 hg13 hn13; obtain ⟨k1, c1, rfl, hc1, hk1, hp1⟩ := Pre.ofOwned (zs := ramL ds) ho13 (by omega); have B13 : Hid (Below w.heap.size w w13) := B1.out.grown hg13 B1.out.size (by intro k hk; exact own_lo O1.out k hk); have M := Lib.hid (mid_made (c1 := c1) B13.out HC.out HROM.out HS.out hp1 hk1); have x1 : w13.cell? ⟨r, 1, none⟩ = some (.slice (some ⟨ga, 0, none⟩) 8192 ca) := (HC.out.under B13.out hr).at_ 1; have f1 : w13.frozen? ⟨r, 1, none⟩ = false := (HC.out.under B13.out hr).free 1; clear ho13 hg13 hn13 hp1)
    | ((with_reducible refine wpList_append_own _ rfl (.tmp 17) (.tmp 19) 29 rfl w13.heap.size 5 i0 (.int .u8 0) 1 1 Try.underlying29 HI.out HZ0.out HZ1.out HZ2.out rfl (by decide) (.slice (some ⟨w13.heap.size, 0, none⟩) 0 0) 0 [] rfl M.out.own ⟨kd, 8192, none⟩ 32768 (cap - 8192) (u8s (papL ds)) rfl L2.out M.out.src.cellsPap (u8s_one _) (by unfold maxLen; omega) (by omega) M.out.size ?_); intro v20 w20 ho20 hg20 hn20; obtain ⟨k2, c2, rfl, hc2, hk2, hp2⟩ := Pre.ofOwned (zs := papL ds) ho20 (by omega); have LA := Lib.hid (mid_done (c2 := c2) M.out hg20 hp2 hk2); obtain ⟨x2, f2⟩ := Mid.cell2 M.out hg20; clear ho20 hg20 hn20 hp2 M))
  clear x1 f1 x2 f2
  go_loopw [23, 5] (fun i _ wr => ∃ k : Nat, k ≤ 4 ∧ i = .int .i64 k ∧ Hid (LoadAt w wr r gr k1 c1 k2 c2 kd zs ds rs k)) (fun i _ _ => 4 - (intOf i).toNat)
  case atStart => exact ⟨0, by omega, rfl, LA⟩
  case round =>
    clear LA
    obtain ⟨k, hk, rfl, LA⟩ := hrel
    by_cases hlt : k < 4
    · have D := Lib.hid LA.out.drew
      have Y1 : Hid (wr.drew.cell? ⟨kd, 40960 + k, none⟩ = some (.int .u8 (ds.getD (40960 + k) 0))) := D.out.src.at_ _ (by rw [HDL.out]; omega)
      have y2 : ∃ u, wr.drew.cell? ⟨r, 3 + k, none⟩ = some u := by
        rw [D.out.cells.at_ (3 + k)]
        rcases (show k = 0 ∨ k = 1 ∨ k = 2 ∨ k = 3 by omega) with rfl | rfl | rfl | rfl <;> exact ⟨_, rfl⟩
      obtain ⟨u, hu⟩ := y2
      have HU := Lib.hid hu
      have FU := Lib.hid (D.out.cells.free (3 + k))
      have LS := Lib.hid (D.out.step hlt)
      obtain ⟨z, hz⟩ : ∃ z, ds.getD (40960 + k) 0 = z := ⟨_, rfl⟩
      rw [hz] at Y1 LS
      clear hz hu
      rcases (show k = 0 ∨ k = 1 ∨ k = 2 ∨ k = 3 by omega) with rfl | rfl | rfl | rfl
      case' inl => have y1 : wr.drew.cell? ⟨kd, 40960, none⟩ = some (.int .u8 z) := Y1.out; have hu' : wr.drew.cell? ⟨r, 3, none⟩ = some u := HU.out; have fu' : wr.drew.frozen? ⟨r, 3, none⟩ = false := FU.out; have LT : Hid (LoadAt w (wr.drew.setCell ⟨r, 3, none⟩ (.int .u8 z)) r gr k1 c1 k2 c2 kd zs ds rs 1) := LS; have hsum : IntKind.i64.wrap 40960 = 40960 := by (rw [IntKind.wrap_i64]; rfl)
      case' inr.inl => have y1 : wr.drew.cell? ⟨kd, 40961, none⟩ = some (.int .u8 z) := Y1.out; have hu' : wr.drew.cell? ⟨r, 4, none⟩ = some u := HU.out; have fu' : wr.drew.frozen? ⟨r, 4, none⟩ = false := FU.out; have LT : Hid (LoadAt w (wr.drew.setCell ⟨r, 4, none⟩ (.int .u8 z)) r gr k1 c1 k2 c2 kd zs ds rs 2) := LS; have hsum : IntKind.i64.wrap 40961 = 40961 := by (rw [IntKind.wrap_i64]; rfl)
      case' inr.inr.inl => have y1 : wr.drew.cell? ⟨kd, 40962, none⟩ = some (.int .u8 z) := Y1.out; have hu' : wr.drew.cell? ⟨r, 5, none⟩ = some u := HU.out; have fu' : wr.drew.frozen? ⟨r, 5, none⟩ = false := FU.out; have LT : Hid (LoadAt w (wr.drew.setCell ⟨r, 5, none⟩ (.int .u8 z)) r gr k1 c1 k2 c2 kd zs ds rs 3) := LS; have hsum : IntKind.i64.wrap 40962 = 40962 := by (rw [IntKind.wrap_i64]; rfl)
      case' inr.inr.inr => have y1 : wr.drew.cell? ⟨kd, 40963, none⟩ = some (.int .u8 z) := Y1.out; have hu' : wr.drew.cell? ⟨r, 6, none⟩ = some u := HU.out; have fu' : wr.drew.frozen? ⟨r, 6, none⟩ = false := FU.out; have LT : Hid (LoadAt w (wr.drew.setCell ⟨r, 6, none⟩ (.int .u8 z)) r gr k1 c1 k2 c2 kd zs ds rs 4) := LS; have hsum : IntKind.i64.wrap 40963 = 40963 := by (rw [IntKind.wrap_i64]; rfl)
      all_goals
        clear Y1 HU FU LS hlt hk
        go_wp2_with fail
        go_still_tail 10, (by kernel_rfl)
        change wpList _ _ _ _ _ wr.drew
        obtain ⟨W, hW1⟩ : ∃ W, W = wr.drew := ⟨_, rfl⟩
        rw [← hW1] at y1 hu' fu' LT ⊢
        clear hW1 D hsum
        go_wp2_with fail
        go_roundw
        case rel => first | exact ⟨1, by omega, rfl, LT⟩ | exact ⟨2, by omega, rfl, LT⟩ | exact ⟨3, by omega, rfl, LT⟩ | exact ⟨4, by omega, rfl, LT⟩
        case measure => simp [intOf]
    · obtain rfl : k = 4 := by omega
      have RD := Lib.hid (LA.out.done HDL.out HO.out HGR)
      clear hlt hk
      go_wp2_with fail
      go_ret
      exact ⟨k1, k2, rfl, RD.out, LA.out.only, LA.out.n1, LA.out.n2, LA.out.src⟩

end Go.Proofs.Ytlnoomganphbeaa
