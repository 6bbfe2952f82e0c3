/-
  The document's own bus: what it is in memory, and its paper, Read and Write by contracts.
-/
import Derived.Test.YtlnoomganphbeaaBusPapers
import Derived.Test.YtlnoomganphbeaaRomRefAt
import Derived.RegionCalls
namespace Go.Proofs.Ytlnoomganphbeaa
open Go.RowKit

/-- a block of bytes that begins with these -/
def Pre (w : World) (g : Nat) (zs : List Int) : Prop := ∃ ex : List Value, Whole w g 5 (u8s zs ++ ex)
theorem Pre.at_ {w : World} {g : Nat} {zs : List Int} (h : Pre w g zs) (i : Nat) (hi : i < zs.length) : w.cell? ⟨g, i, none⟩ = some (.int .u8 (zs.getD i 0)) := by
  obtain ⟨ex, h⟩ := h
  rw [h.at_ i, List.getElem?_append_left (by simpa using hi), u8s_get, List.getElem?_eq_getElem hi, Option.map_some, List.getD_eq_getElem?_getD, List.getElem?_eq_getElem hi]
  rfl
theorem Pre.free {w : World} {g : Nat} {zs : List Int} (h : Pre w g zs) (i : Nat) : w.frozen? ⟨g, i, none⟩ = false := by
  obtain ⟨ex, h⟩ := h
  exact h.free i
theorem Pre.inside {w : World} {g : Nat} {zs : List Int} (h : Pre w g zs) : g < w.heap.size := by
  obtain ⟨ex, h⟩ := h
  exact h.inside
theorem Pre.put {w : World} {g : Nat} {zs : List Int} (h : Pre w g zs) (i : Nat) (hi : i < zs.length) (v : Int) : Pre (w.setCell ⟨g, i, none⟩ (.int .u8 v)) g (zs.set i v) := by
  obtain ⟨ex, h⟩ := h
  refine ⟨ex, ?_⟩
  have := h.put i (.int .u8 v)
  rwa [List.set_append_left _ _ (by simpa using hi), show (u8s zs).set i (.int .u8 v) = u8s (zs.set i v) by simp [u8s, List.map_set]] at this

/-- only blocks that p names may have turned; others may have come -/
structure Only (w w' : World) (p : Nat → Prop) : Prop where
  os : w'.os = w.os
  tape : w'.tape = w.tape
  output : w'.output = w.output
  size : w.heap.size ≤ w'.heap.size
  block : ∀ k, k < w.heap.size → ¬ p k → w'.heap[k]? = w.heap[k]?
section
variable {w w' w2 : World} {p q : Nat → Prop}
theorem Only.refl (w : World) (p : Nat → Prop) : Only w w p := ⟨rfl, rfl, rfl, Nat.le_refl _, fun _ _ _ => rfl⟩
theorem Only.trans (h : Only w w' p) (h2 : Only w' w2 p) : Only w w2 p :=
  ⟨h2.os.trans h.os, h2.tape.trans h.tape, h2.output.trans h.output, Nat.le_trans h.size h2.size, fun k hk hn => (h2.block k (Nat.lt_of_lt_of_le hk h.size) hn).trans (h.block k hk hn)⟩
theorem Only.more (h : Only w w' p) (hp : ∀ k, p k → q k) : Only w w' q := ⟨h.os, h.tape, h.output, h.size, fun k hk hn => h.block k hk fun h' => hn (hp k h')⟩
theorem Only.put (h : Only w w' p) {g : Nat} (hg : p g) (o : Nat) (u : Value) : Only w (w'.setCell ⟨g, o, none⟩ u) p :=
  ⟨h.os, h.tape, h.output, by simpa [World.setCell] using h.size, fun k hk hn => (Below.heap_setCell w' ⟨g, o, none⟩ u k (fun e => hn (by rw [e]; exact hg))).trans (h.block k hk hn)⟩
theorem Only.drew (h : Only w w' p) : Only w w'.drew p := ⟨h.os, h.tape, h.output, h.size, h.block⟩
theorem Only.drewN (h : Only w w' p) (n : Nat) : Only w (w'.drewN n) p := ⟨h.os, h.tape, h.output, h.size, h.block⟩
theorem Only.below (h : Below w.heap.size w w') : Only w w' p := ⟨h.os, h.tape, h.output, h.size, fun k hk _ => h.block k hk⟩
theorem Only.grown {g : Nat} (h : w.grownBy w' (some g)) (hg : p g) : Only w w' p := ⟨h.os, h.tape, h.output, h.size, fun k hk hn => h.block k hk (by intro e; cases e; exact hn hg)⟩
theorem Only.toBelow {W0 : World} (h : Only w w' p) (hb : Below W0.heap.size W0 w) (hp : ∀ k, p k → W0.heap.size ≤ k) : Below W0.heap.size W0 w' :=
  ⟨h.os.trans hb.os, h.tape.trans hb.tape, h.output.trans hb.output, Nat.le_trans hb.size h.size, fun k hk => (h.block k (Nat.lt_of_lt_of_le hk hb.size) (fun h' => by have := hp k h'; omega)).trans (hb.block k hk)⟩
theorem Whole.only {g : Nat} {t : TypeId} {cs : List Value} (hw : Whole w g t cs) (h : Only w w' p) (hg : ¬ p g) : Whole w' g t cs := (h.block g hw.inside hg).trans hw
theorem Pre.only {g : Nat} {zs : List Int} (hw : Pre w g zs) (h : Only w w' p) (hg : ¬ p g) : Pre w' g zs := by
  obtain ⟨ex, hw⟩ := hw
  exact ⟨ex, hw.only h hg⟩
end

def ramL (zs : List Int) : List Int := zs.take 8192
def papL (zs : List Int) : List Int := (zs.drop 8192).take 32768
/-- the document's bus at r: its cartridge's bytes at gr, its RAM at ga, its PAPER at gp -/
structure RefIn (w : World) (r gr ga gp : Nat) (zs rs : List Int) : Prop where
  cells : ∃ ca cp, Whole w r 49 [.slice (some ⟨gr, 0, none⟩) rs.length rs.length, .slice (some ⟨ga, 0, none⟩) 8192 ca, .slice (some ⟨gp, 0, none⟩) 32768 cp,
    .int .u8 (zs.getD 40960 0), .int .u8 (zs.getD 40961 0), .int .u8 (zs.getD 40962 0), .int .u8 (zs.getD 40963 0)]
  rom : Whole w gr 5 (u8s rs)
  ram : Pre w ga (ramL zs)
  pap : Pre w gp (papL zs)
  len : zs.length = 40964
  oct : Oct zs
  n1 : gr ≠ ga
  n2 : gr ≠ gp
  n3 : ga ≠ gp

theorem Pre.apart {w : World} {g r : Nat} {zs : List Int} {cs : List Value} (h : Pre w g zs) (h' : Whole w r 49 cs) : g ≠ r := by
  obtain ⟨ex, h⟩ := h
  exact h.apart h' (by decide)

/-- where in the PAPER an address is; -1: nowhere -/
def papV (zs : List Int) (a : Int) : Int := if 32768 ≤ a ∧ a < 49152 ∧ zs.getD 40960 0 / 8 % 2 = 1 then a % 16384 + 16384 * (zs.getD 40960 0 / 4 % 2) else -1

set_option maxRecDepth 100000 in
set_option maxHeartbeats 800000 in
theorem paper_any (r gr ga gp : Nat) (zs rs : List Int) (a : Int) (h0 : 0 ≤ a) (h1 : a ≤ 65535) (w : World) (h : RefIn w r gr ga gp zs rs) (p : Int) (hp : papV zs a = p) :
    Calls Try.prog 29 #[.pointer (some ⟨r, 0, none⟩), .int .i64 a] w fun e w' => e = .returned (.int .i64 p) ∧ w' = w := by
  obtain ⟨⟨ca, cp, hc⟩, _, _, _, _, ho, _, _, _⟩ := h
  have hm : w.cell? ⟨r, 3, none⟩ = some (.int .u8 (zs.getD 40960 0)) := hc.at_ 3
  have hmb := ho.getD 40960
  unfold papV at hp
  generalize zs.getD 40960 0 = m at *
  obtain ⟨hm0, hm1⟩ := hmb
  obtain ⟨q8, hq8⟩ : ∃ q, q = m / 8 := ⟨_, rfl⟩
  obtain ⟨q4, hq4⟩ : ∃ q, q = m / 4 := ⟨_, rfl⟩
  have d8 : IntKind.u8.wrap (m.tdiv 8) = q8 := by rw [Int.tdiv_eq_ediv_of_nonneg hm0, IntKind.wrap_u8]; omega
  have d4 : IntKind.u8.wrap (m.tdiv 4) = q4 := by rw [Int.tdiv_eq_ediv_of_nonneg hm0, IntKind.wrap_u8]; omega
  rw [← hq8, ← hq4] at hp
  have b8 : 0 ≤ q8 ∧ q8 ≤ 31 := by omega
  have b4 : 0 ≤ q4 ∧ q4 ≤ 63 := by omega
  obtain ⟨b80, b81⟩ := b8
  obtain ⟨b40, b41⟩ := b4
  have HP := Lib.hid hp
  clear hp ho hc hq8 hq4
  by_cases c1 : 32768 ≤ a
  · by_cases c2 : a < 49152
    · rcases (show q8 % 2 = 1 ∨ q8 % 2 = 0 by omega) with c3 | c3
      · have HQ : Hid (a % 16384 + 16384 * (q4 % 2) = p) := by show _ = _; have := HP.out; rwa [if_pos ⟨c1, c2, c3⟩] at this
        clear HP
        go_enter Try.func29, Try.ntmps29
        go_wp2
        go_ret
        exact ⟨by rw [← HQ.out]; rfl, rfl⟩
      · have HQ : Hid (p = -1) := by show _ = _; have := HP.out; rw [if_neg (by omega)] at this; exact this.symm
        clear HP
        go_enter Try.func29, Try.ntmps29
        go_wp2
        go_ret
        exact ⟨by rw [HQ.out]; rfl, rfl⟩
    · have HQ : Hid (p = -1) := by show _ = _; have := HP.out; rw [if_neg (by omega)] at this; exact this.symm
      clear HP
      go_enter Try.func29, Try.ntmps29
      go_wp2
      go_ret
      exact ⟨by rw [HQ.out]; rfl, rfl⟩
  · have HQ : Hid (p = -1) := by show _ = _; have := HP.out; rw [if_neg (by omega)] at this; exact this.symm
    clear HP
    go_enter Try.func29, Try.ntmps29
    go_wp2
    go_ret
    exact ⟨by rw [HQ.out]; rfl, rfl⟩

end Go.Proofs.Ytlnoomganphbeaa
